import PyProof.Rows.All
import Wide.All
import OpenK.AllK
import Wide.FinOn
import Lean
import PyProof.EqAt
import PyProof.EqKinds
import PyProof.TupleCall
import PyProof.DictUpdate
import PyProof.NeKinds
import PyProof.StrLawsIn
import KE.KRevSl
import PyProof.ZipIter
import PyProof.ListRange
import PyProof.Rows.SortStr
import KE.KRevIter
import KE.KDictSum
import PyProof.EnumMake
import PyProof.EnumFor
import PyProof.Draws
import KE.KIntText
import PyProof.CallStr
import PySem.Challenge.RW_pastways_k94_whole_owned_texts
set_option Elab.async false
set_option linter.all false
set_option maxRecDepth 100000
def gF:=@PySem.wpAny_bind
def gV:=@Option.map_eq_some_iff
def qV:=@Option.some.inj
def uq:=@PySem.wpAny_pure
def xg:=@Bool.and_eq_true
def FJ:=@PySem.Heap.get?_push_of_some
def G3:=@List.size_toArray
def JP:=@if_pos
def NN:=@Option.bind_eq_some_iff
def P6:=@Nat.lt_of_lt_of_le
def Uy:=@List.getElem?_eq_getElem
def Uz:=@List.map_cons
def WD:=@List.getElem?_set_ne
def WE:=@Nat.le_refl
def Xk:=@List.getElem?_append_left
def Xl:=@PySem.Heap.lt_size
def Yt:=@List.length_append
def Yu:=@if_neg
def Y5:=@List.replicate_succ
def Y6:=@List.getElem?_set_self
def aaa:=@Nat.le_trans
def aab:=@congrArg
def aac:=@decide_eq_false
def aad:=@List.map_append
def aae:=@PySem.Heap.get?_push_size
def aaf:=@List.length_cons
def aag:=@List.mem_cons_of_mem
def aah:=@List.getElem?_eq_none
def aai:=@Bool.false_eq_true
def aaj:=@decide_eq_true
def aak:=@List.reverse_cons
def aal:=@if_true
def aam:=@List.mem_of_getElem?
def aan:=@PySem.W.mg_none_of
def aao:=@List.append_nil
def aap:=@List.mem_append_right
def aaq:=@Nat.ne_of_lt
def aar:=@PySem.wpAny_newObj_type
def aas:=@of_decide_eq_true
def aat:=@List.getElem?_map
def aau:=@List.take_of_length_le
def aav:=@PySem.W.kia_one
def aaw:=@List.length_map
def aax:=@List.cons_append
def aay:=@decide_eq_true_eq
def aaz:=@List.append_assoc
def aaA:=@PyProof.Rows.slot_tuple_getitem
def aaB:=@Nat.lt_irrefl
def aaC:=@List.drop_drop
def aaD:=@List.map_map
def aaE:=@PySem.AutoSeq1.wpAny_loadPart'
def aaF:=@List.foldl_cons
def aaG:=@List.mem_cons_self
def aaH:=@PySem.W.mg_of
def aaI:=@List.flatten_cons
def aaJ:=@List.filterMap_cons
def aaK:=@PySem.wpAny_ite_split
def aaL:=@if_false
def aaM:=@Bool.false_ne_true
def aaN:=@PySem.wpAny_field
def aaO:=@List.mem_append_left
def aaP:=@PySem.wpAny_truthy_bool
def aaQ:=@Bool.or_eq_true
def aaR:=@PyProof.Rows.callWith_type1
def aaS:=@List.take_succ_cons
def aaT:=@List.getElem?_append_right
def aaU:=@PySem.wpAny_call_entry
def aaV:=@PySem.builtinLookup_eq_fast
def aaW:=@Nat.zero_le
def aaX:=@PySem.call_meets
def aaY:=@List.mem_cons
def aaZ:=@PySem.wpAny_callSpecial?_slot
def aa0:=@List.lookup_cons
def aa1:=@PySem.wpAny_mono
def aa2:=@List.drop_eq_nil_of_le
def aa3:=@of_decide_eq_false
def aa4:=@PySem.wpAny_passesOwn
def aa5:=@List.forIn_cons
def aa6:=@List.length_singleton
def aa7:=@PySem.Heap.get?_update_self
def aa8:=@PySem.wpAny_of_eq
def aa9:=@PySem.sizeLine_eq
def aba:=@List.length_take
def abb:=@List.length_drop
def abc:=@List.all_eq_true
def abd:=@PySem.mem_of_lookup
def abe:=@Option.bind_eq_bind
def abf:=@List.drop_succ_cons
def abg:=@Array.length_toList
def abh:=@PyProof.Rows.len_str
def abi:=@PySem.typeLookup_type
def abj:=@List.mem_singleton
def abk:=@PySem.Heap.get?_update_other
def abl:=@Ne.symm
def abm:=@Nat.add_comm
def abn:=@PySem.isSubtype_type
def abo:=@List.drop_zero
def abp:=@List.singleton_append
def abq:=@List.dropLast_eq_take
def abr:=@PySem.typeIs_str
def abt:=@List.filter_cons
def abu:=@List.getElem?_range
def abv:=@PySem.wpAny_specialOf
def abw:=@List.range_succ
def abx:=@List.nil_append
def aby:=@List.length_nil
def abz:=@PySem.wpAny_Call_Name_kw
def abA:=@PySem.Obj.data_mapFields
def abB:=@Int.emod_lt_of_pos
def abC:=@PySem.F.args_tuple_mul_2
def abD:=@PySem.F.args_tuple_add_2
def abE:=@PySem.F.plainAttrs_list
def abF:=@PySem.F.entry_tuple_mul
def abG:=@PySem.F.entry_tuple_add
def abH:=@Option.some.injEq
def abI:=@List.foldl_append
def abJ:=@List.ext_getElem?
def abK:=@Int.toNat_natCast
def abL:=@PySem.F.slot_tuple_mul
def abM:=@PySem.F.slot_tuple_add
def abN:=@PySem.F.plainAttrs_str
def abO:=@List.range_succ_eq_map
def abP:=@Nat.add_assoc
def abQ:=@Nat.lt_succ_self
def abR:=@List.any_eq_true
def abS:=@PySem.F.slot_str_split
def abT:=@List.take_append_drop
def abU:=@List.length_filter_le
def abV:=@List.eq_nil_or_concat
def abW:=@List.concat_eq_append
def abX:=@PySem.wpAny_typeOf
def abY:=@Nat.succ_mul
def abZ:=@List.map_nil
def ab0:=@Nat.min_eq_left
def ab1:=@List.nodup_cons
def ab2:=@Int.emod_nonneg
def ab3:=@Bool.eq_iff_iff
def ab4:=@List.extract_toArray
def ab5:=@PyProof.Rows.entry_tuple_getitem
def ab6:=@List.getElem_of_mem
def ab7:=@PySem.Heap.SameBut.update
def ab8:=@Eq.trans
def ab9:=@PyProof.Rows.args_tuple_getitem
def acd:=@PyProof.V.same_str
def ace:=@List.filter_append
def acf:=@PySem.F.args_str_split_2
def acg:=@PySem.wpAny_holding
def ach:=@PySem.wpAny_attempt
def aci:=@List.getD_eq_getElem?_getD
def acj:=@PySem.Calls.Name_function_global
def ack:=@PySem.wpAny_sequenceKey
def acm:=@PySem.W.kitx_list
def acn:=@Function.comp_def
def aco:=@PySem.F.entry_str_split
def acp:=@Bool.not_eq_true'
def acq:=@PySem.wpAny_rule
def acr:=@PySem.typeIs_int
def acs:=@PySem.wpAny_binaryOp_repeat_ref
def acu:=@List.getElem?_eq_none_iff
def acv:=@List.drop_eq_getElem_cons
def acw:=@Array.getElem?_eq_getElem
def acy:=@PySem.wpAny_isInstance
def acz:=@PySem.noFill_tuple_add
def acA:=@Nat.min_eq_right
def acB:=@List.mem_nil_iff
def acC:=@List.append_inj'
def acD:=@PySem.AutoSeq1.idx_int
def acE:=@PySem.wpAny_getItem_list_slice
def acF:=@PySem.wpAny_comprehension_free
def acG:=@decide_eq_false_iff_not
def acH:=@List.getElem?_replicate
def acI:=@PySem.wpAny_updateSeq
def acJ:=@PySem.wpAny_execs_nil
def acK:=@List.of_mem_zip
def acL:=@PySem.W.cellsFrom_some
def acM:=@PySem.wpAny_setField
def acN:=@Bool.false_and
def acO:=@PySem.F.slot_int_rmul
def acP:=@List.length_replicate
def acQ:=@List.getElem?_toArray
def acR:=@beq_iff_eq
def acS:=@Nat.pow_le_pow_right
def acT:=@List.getLast?_append
def acU:=@List.getElem?_of_mem
def acV:=@List.sum_cons
def acW:=@Bool.true_and
def acX:=@Bool.or_false
def acY:=@Nat.sub_lt_sub_left
def acZ:=@List.length_reverse
def ac0:=@List.flatMap_append
def ac1:=@Nat.ne_of_gt
def ac2:=@Nat.le_of_lt
def ac3:=@Int.zero_add
def ac4:=@PySem.W.kitx_tuple
def ac5:=@List.zip_cons_cons
def ac6:=@List.filterMap_map
def ac7:=@List.contains_cons
namespace L2
open PySem PySem.Spec PyProof.Rows
abbrev Key:=Sum Int Str
noncomputable def FU:Key->Value->Bool
 |.inl k,v=>Value.isInt k v
 |.inr x,v=>Value.isStrOf x v
noncomputable def VE(w:World):Key->Int
 |.inl k=>hashInt k
 |.inr x=>hashStr w x
def dW:∀{k:Key}{v:Value},FU k v=true->(∃i t,k=Sum.inl i/\v=Value.int i t)\/(∃x t,k=Sum.inr x/\v=Value.str x t)
 |.inl i,v,h=>by
  obtain⟨t,e⟩:=Value.isInt_shape (k:=i) (v:=v) h;exact .inl ⟨i,t,rfl,e⟩
 |.inr x,v,h=>by
  obtain⟨t,e⟩:=Value.isStrOf_shape (x:=x) (v:=v) h;exact .inr ⟨x,t,rfl,e⟩
def J3(a b:Int):decide ((Sum.inl a:Key)=Sum.inl b)=(a==b):=by
 by_cases e:a=b
 .subst e;simp
 .have h:¬ (Sum.inl a:Key)=Sum.inl b:=λq=>e (Sum.inl.inj q);rw[aac h];exact(beq_eq_false_iff_ne.mpr e).symm
def J4(a b:Str):decide ((Sum.inr a:Key)=Sum.inr b)=decide (a=b):=by
 by_cases e:a=b
 .subst e;simp
 .have h:¬ (Sum.inr a:Key)=Sum.inr b:=λq=>e (Sum.inr.inj q);rw[aac h,aac e]
def J5(a:Int)(b:Str):decide ((Sum.inl a:Key)=Sum.inr b)=false:=aac (λq=>nomatch q)
def J6(a:Str)(b:Int):decide ((Sum.inr a:Key)=Sum.inl b)=false:=aac (λq=>nomatch q)
noncomputable def rF(prog:Program)(w:World):PySem.KeyKind prog w Key where
 is:=FU
 hash:=VE w
 inj:=λv a b ha hb=>by
  rcases dW ha with ⟨i,t,rfl,rfl⟩|⟨x,t,rfl,rfl⟩
  .rcases dW hb with ⟨j,u,rfl,e⟩|⟨y,u,rfl,e⟩
   .injection e with e1 _;rw[e1]
   .exact nomatch e
  .rcases dW hb with ⟨j,u,rfl,e⟩|⟨y,u,rfl,e⟩
   .exact nomatch e
   .injection e with e1 _;rw[e1]
 byValue:=λk v h=>by
  rcases dW h with ⟨i,t,rfl,rfl⟩|⟨x,t,rfl,rfl⟩<;>rfl
 pyHash:=λhv h=>by
  rcases dW hv with ⟨i,t,rfl,rfl⟩|⟨x,t,rfl,rfl⟩
  .exact wpAny_pyHash_int h
  .exact wpAny_pyHash_str h
 eqBool:=λhu hv h=>by
  rcases dW hu with ⟨i,t,rfl,rfl⟩|⟨x,t,rfl,rfl⟩
  .rcases dW hv with ⟨j,u,rfl,rfl⟩|⟨y,u,rfl,rfl⟩
   .rw[J3]at h;exact wpAny_eqBool_int h
   .rw[J5]at h;exact SeqAt.EqAt.int_str i t y u _ _ _ _ h
  .rcases dW hv with ⟨j,u,rfl,rfl⟩|⟨y,u,rfl,rfl⟩
   .rw[J6]at h;exact SeqAt.EqAt.str_int x t j u _ _ _ _ h
   .rw[J4]at h;exact wpAny_eqBool_str h
 «strs»:=λk x t v h=>by
  rcases dW h with ⟨i,u,rfl,e⟩|⟨y,u,rfl,e⟩
  .exact nomatch e
  .injection e with e1 _
   subst e1;cases v<;>rfl
inductive V where
 |bz|bl (b:Bool)|int (i:Int)|str (x:Str)|A6 (b:Array UInt8)|yh (b:UInt64)|ref (a:Addr)|ty (n:String)
 deriving DecidableEq
noncomputable def RelV:V->Value->Prop
 |.bz,u=>u=Value.none
 |.bl b,u=>u=Value.bool b
 |.int i,u=>∃t,u=Value.int i t
 |.str x,u=>∃t,u=Value.str x t
 |.A6 b,u=>∃t,u=Value.bytes b t
 |.yh b,u=>∃t,u=Value.float b t
 |.ref a,u=>u=Value.ref a
 |.ty n,u=>u=Value.type n
abbrev Vals:List V->List Value->Prop:=Paired RelV
theorem Vals.length{xs:List V}{us:List Value}(r:Vals xs us):xs.length=us.length:=Paired.length r
theorem Vals.get:∀{xs:List V}{us:List Value}{i:Nat}{x:V},Vals xs us->xs[i]?=some x->∃u,us[i]?=some u/\RelV x u
 |_,_,_,_,.nil,e=>by simp at e
 |_,_,0,_,.cons r _,e=>by simp at e;subst e;exact⟨_,rfl,r⟩
 |_,_,i+1,x,.cons _ t,e=>by
  obtain⟨u,h1,h2⟩:=Vals.get (i:=i) (x:=x) t (by simpa using e);exact⟨u,by simpa using h1,h2⟩
theorem Vals.append:∀{xs ys:List V}{us ws:List Value},Vals xs us->Vals ys ws->Vals (xs++ys) (us++ws)
 |_,_,_,_,.nil,s=>s
 |_,_,_,_,.cons r t,s=>.cons r (Vals.append t s)
theorem Vals.take:∀{xs:List V}{us:List Value}(n:Nat),Vals xs us->Vals (xs.take n) (us.take n)
 |_,_,0,_=>.nil
 |_,_,_+1,.nil=>.nil
 |_,_,n+1,.cons r t=>.cons r (Vals.take n t)
theorem Vals.drop:∀{xs:List V}{us:List Value}(n:Nat),Vals xs us->Vals (xs.drop n) (us.drop n)
 |_,_,0,r=>r
 |_,_,_+1,.nil=>.nil
 |_,_,n+1,.cons _ t=>Vals.drop n t
noncomputable def Dn:Option V->Option Value->Prop
 |some v,some u=>RelV v u
 |none,none=>True
 |_,_=>False
noncomputable def KV{κ:Type}:List (κ×V)->List (κ×Value)->Prop:=Paired λ(p:κ×V) (q:κ×Value)=>p.1=q.1/\RelV p.2 q.2
noncomputable def kV:Key->V
 |.inl i=>.int i
 |.inr x=>.str x
inductive HO where
 |lst (xs:List V)
 |tup (xs:List V)
 |dK (kvs:List (Key×V))|dT (kvs:List (List Key×V))
 |set (S:Int->Bool) (n:Nat)
 |ins (C dx:Addr) (fs:List (Str×V))
 |own (x:Addr)
 |xd (fs:List (Str×V))
 |met (f x:Addr)
 |gI (lo hi:Int)
 |bU (o:Obj) (u:HO)
 |u5 (ps:Array Value)
 |ext (φ:Heap->Prop)
abbrev Hp:=Addr->Option HO
noncomputable def upd(H:Hp)(a:Addr)(o:HO):Hp:=λb=>if b=a then some o else H b
def g8{H:Hp}{a:Addr}{o:HO}:upd H a o a=some o:=by unfold upd;rw[JP rfl]
def bO{H:Hp}{a b:Addr}{o:HO}(h:b≠a):upd H a o b=H b:=by unfold upd;rw[Yu h]
def qg{H:Hp}{a b:Addr}{o u:HO}(h:H a=some o)(h':H b=some u)(d:o≠u):a≠b:=by
 intro e;subst e;rw[h]at h';exact d (qV h')
def cF{H:Hp}{a b:Addr}{o:HO}(h:H a=some o)(h':H b=none):a≠b:=by
 intro e;subst e;rw[h]at h';cases h'
section
variable(P:Program)(w:World)
noncomputable def eG(H:Hp)(h:Heap)(a:Addr):HO->Prop
 |.lst xs=>xs.length<=sizeLine/\∃(its:List Value) (n:Nat),Vals xs its/\h.get? a=some { cls:=.type "list",data:=.seq its.toArray n }
 |.tup xs=>xs.length<=sizeLine/\∃its:List Value,Vals xs its/\IsTup h a its.toArray
 |.dK kvs=>kvs.length<=sizeLine/\(a==sysModules)=false/\∃vs,KV kvs vs/\h.DictOf (rF P w) a vs
 |.dT kvs=>kvs.length<=sizeLine/\(a==sysModules)=false/\∃xs:List (List Key×Addr×Value),
   Paired (λ(p:List Key×V) (q:List Key×Addr×Value)=>p.1=q.1/\H q.2.1=some (.tup (p.1.map kV))/\RelV p.2 q.2.2) kvs xs/\
   ∃o es ep,h.get? a=some o/\o.ExactDict/\o.data=.dict es ep/\es.toList=xs.map (entryOfKey (tupleKind (rF P w)))/\(xs.map (·.1)).Nodup
 |.set S n=>h.SetOf (intKind P w) a S n
 |.ins C dx fs=>H dx=some (.own a)/\fs.length<=1000/\dx≠a/\h.get? a=some (PySem.W.instObj C dx)/\
   ∃mA,h.Ns1 dx mA/\(∀f,Dn (fs.lookup f) (mA f))/\PySem.Within mA (fs.map (·.1))
 |.own _=>∃o,h.get? a=some o
 |.xd fs=>∃mA,h.Ns1 a mA/\∀f,Dn (fs.lookup f) (mA f)
 |.gI lo hi=>∃t u v,h.get? a=some { cls:=.type "range",data:=.fields #[.int lo t,.int hi u,.int 1 v]}
 |.bU o u=>h.get? a=some o/\eG H h a u
 |.u5 ps=>h.get? a=some { cls:=.none,data:=.fields ps }
 |.met f x=>h.get? a=some (PySem.W.methodObj (.ref f) (.ref x))
 |.ext φ=>φ h/\(∃o,h.get? a=some o)/\∀h1 h2:Heap,φ h1->(∀o,h1.get? a=some o->h2.get? a=some o)->φ h2
noncomputable def gn(H:Hp)(h:Heap):Prop:=∀a o,H a=some o->eG P w H h a o
end
section
variable{P:Program}{w:World}{H H':Hp}{h h':Heap}{a:Addr}{o:HO}
theorem eG.lt(x:eG P w H h a o):a<h.objs.size:=by
 cases o with
 |lst xs=>obtain⟨_,_,_,_,e⟩:=x;exact Xl e
 |tup xs=>obtain⟨_,_,_,p⟩:=x;exact p.lt
 |dK kvs=>obtain⟨_,_,_,_,o,_,_,e,_⟩:=x;exact Xl e
 |dT kvs=>obtain⟨_,_,_,_,o,_,_,e,_⟩:=x;exact Xl e
 |set S n=>obtain⟨o,_,_,_,e,_⟩:=x;exact Xl e
 |ins C dx fs=>obtain⟨_,_,_,e,_⟩:=x;exact Xl e
 |own y=>obtain⟨_,e⟩:=x;exact Xl e
 |xd fs=>obtain⟨_,⟨_,_,_,e,_⟩,_⟩:=x;exact Xl e
 |gI lo hi=>obtain⟨_,_,_,e⟩:=x;exact Xl e
 |bU ob u=>obtain⟨e,_⟩:=x;exact Xl e
 |u5 ps=>exact Xl (show h.get? a=some _ from x)
 |met f y=>exact Xl (show h.get? a=some _ from x)
 |ext φ=>obtain⟨_,⟨_,e⟩,_⟩:=x;exact Xl e
theorem Paired.J7{α β:Type}{F G:α->β->Prop}:∀{l₁:List α}{l₂:List β},Paired F l₁ l₂->(∀a b,F a b->G a b)->Paired G l₁ l₂
 |_,_,.nil,_=>.nil
 |_,_,.cons r t,f=>.cons (f _ _ r) (Paired.J7 t f)
def eG.stay(x:eG P w H h a o)(k:∀b u,(b=a\/H b=some (.own a))->h.get? b=some u->h'.get? b=some u)
  (ho:∀b,H b=some (.own a)->H' b=some (.own a)) (ht:∀b xs,H b=some (.tup xs)->H' b=some (.tup xs)):eG P w H' h' a o:=by
 induction o with
 |lst xs=>obtain⟨z,its,n,r,e⟩:=x;exact⟨z,its,n,r,k _ _ (.inl rfl) e⟩
 |tup xs=>obtain⟨z,its,r,ob,e,c⟩:=x;exact⟨z,its,r,ob,k _ _ (.inl rfl) e,c⟩
 |dK kvs=>obtain⟨z,y,vs,r,ob,es,ep,e,c⟩:=x;exact⟨z,y,vs,r,ob,es,ep,k _ _ (.inl rfl) e,c⟩
 |dT kvs=>
  obtain⟨z,y,xs,r,ob,es,ep,e,c⟩:=x;exact⟨z,y,xs,Paired.J7 r λp q z=>⟨z.1,ht _ _ z.2.1,z.2.2⟩,ob,es,ep,k _ _ (.inl rfl) e,c⟩
 |set S n=>obtain⟨ob,es,ep,t,e,c⟩:=x;exact⟨ob,es,ep,t,k _ _ (.inl rfl) e,c⟩
 |ins C dx fs=>
  obtain⟨d,z,ne,e,mA,⟨od,es,ep,e2,c⟩,r⟩:=x;exact⟨ho _ d,z,ne,k _ _ (.inl rfl) e,mA,⟨od,es,ep,k _ _ (.inr d) e2,c⟩,r⟩
 |own y=>obtain⟨ob,e⟩:=x;exact⟨ob,k _ _ (.inl rfl) e⟩
 |xd fs=>obtain⟨mA,⟨od,es,ep,e,c⟩,r⟩:=x;exact⟨mA,⟨od,es,ep,k _ _ (.inl rfl) e,c⟩,r⟩
 |gI lo hi=>obtain⟨t,u,v,e⟩:=x;exact⟨t,u,v,k _ _ (.inl rfl) e⟩
 |bU ob u ih=>obtain⟨e,q⟩:=x;exact⟨k _ _ (.inl rfl) e,ih q⟩
 |u5 ps=>
  have e:h.get? a=some { cls:=.none,data:=.fields ps }:=x;show h'.get? a=some { cls:=.none,data:=.fields ps };exact k a _ (.inl rfl) e
 |met f y=>
  have e:h.get? a=some (PySem.W.methodObj (.ref f) (.ref y)):=x;show h'.get? a=some (PySem.W.methodObj (.ref f) (.ref y));exact k a _ (.inl rfl) e
 |ext φ=>obtain⟨p,⟨o,e⟩,st⟩:=x;exact⟨st _ _ p λo q=>k _ _ (.inl rfl) q,⟨o,k _ _ (.inl rfl) e⟩,st⟩
theorem gn.lt(x:gn P w H h)(e:H a=some o):a<h.objs.size:=(x a o e).lt
def gn.fresh(x:gn P w H h)(e:h.objs.size<=a):H a=none:=by
 cases q:H a with
 |none=>rfl
 |some u=>exact absurd (P6 (x.lt q) e) (aaB _)
def gn.kept(x:gn P w H h)(k:∀b u,h.get? b=some u->h'.get? b=some u):gn P w H h':=λa o e=>
 (x a o e).stay (λb u _ q=>k b u q) (λ_ q=>q) λ_ _ q=>q
def gn.laid(x:gn P w H h)(k:∀b u,h.get? b=some u->h'.get? b=some u)(hp:h.objs.size<=a)(new:eG P w (upd H a o) h' a o):gn P w (upd H a o) h':=λb u e=>by
 have hn:=x.fresh hp;by_cases hb:b=a
 .subst hb;rw[g8]at e;cases e;exact new
 .rw[bO hb]at e;exact(x b u e).stay (λc v _ q=>k c v q) (λc q=>by rw[bO (cF q hn)];exact q) λc xs q=>by rw[bO (cF q hn)];exact q
end
noncomputable def Rd(H:Hp)(a:Addr)(u:HO):Prop:=H a=some u\/∃o,H a=some (.bU o u)
def Rd.ok{P:Program}{w:World}{H:Hp}{h:Heap}{a:Addr}{u:HO}(r:Rd H a u)(x:gn P w H h):eG P w H h a u:=by
 rcases r with r|⟨o,r⟩
 .exact x a u r
 .obtain⟨_,q⟩:=x a _ r;exact q
noncomputable def FY:Option HO->Prop
 |some (.lst _)=>True
 |some (.dK _)=>True
 |some (.dT _)=>True
 |some (.set _ _)=>True
 |some (.ins _ _ _)=>True
 |some (.ext _)=>True
 |_=>False
section
variable{P:Program}{w:World}{H:Hp}{h h':Heap}{x e:Addr}{o':HO}
def gn.write(ok:gn P w H h)(mu:FY (H x))(he:e=x\/H e=some (.own x))(k:∀b u,b≠e->h.get? b=some u->h'.get? b=some u)(yi:∃u,h'.get? e=some u)
  (new:eG P w (upd H x o') h' x o'):gn P w (upd H x o') h':=λb u q=>by
 have J8:∀c y,H c=some (.own y)->c≠x:=λc y r z=>by subst z;rw[r]at mu;exact mu
 have VF:∀c xs,H c=some (.tup xs)->c≠x:=λc xs r z=>by subst z;rw[r]at mu;exact mu
 by_cases hb:b=x
 .subst hb;rw[g8]at q;cases q;exact new
 .rw[bO hb]at q;by_cases u6:b=e
  .have q':H b=some (.own x):=by
    rcases he with z|z
    .exact absurd (u6.trans z) hb
    .rw[u6];exact z
   rw[q]at q';cases q';obtain⟨v,hv⟩:=yi;exact⟨v,by rw[u6];exact hv⟩
  .refine(ok b u q).stay (λc v hc r=>k c v ?_ r) (λc r=>by rw[bO (J8 c b r)];exact r) λc xs r=>by rw[bO (VF c xs r)];exact r
   rcases hc with rfl|hc
   .exact u6
   .rintro rfl;rcases he with z|z
    .exact J8 c b hc z
    .rw[hc]at z;cases z;exact hb rfl
end
structure Un(fs ex:List Addr)(H H':Hp)(h h':Heap):Prop where
 keep:∀b o,h.get? b=some o->H b=none->b∉fs->b∉ex->h'.get? b=some o
 slot:∀b o,h.get? b=some o->H b=none->b∈fs->b∉ex->∃sl,h'.get? b=some { o with slots:=sl }
 free:∀b o,h.get? b=some o->H b=none->b∉ex->H' b=none
 there:∀b o,h.get? b=some o->b∉ex->∃o',h'.get? b=some o'
 tups:∀b xs,H b=some (.tup xs)->H' b=some (.tup xs)
 lW:∀b o u,H b=some (.bU o u)->H' b=some (.bU o u)
 mZ:∀b ps,H b=some (.u5 ps)->∃more,H' b=some (.u5 (ps++more))
section
variable{fs ex:List Addr}{H H1:Hp}{h h1 h':Heap}{a x e:Addr}{o:HO}
def Un.any(u:Un fs ex H H1 h h1){b:Addr}{ob:Obj}(q:h.get? b=some ob)(n:H b=none)(hx:b∉ex):∃sl,h1.get? b=some { ob with slots:=sl }:=by
 by_cases hb:b∈fs
 .exact u.slot b ob q n hb hx
 .exact⟨ob.slots,u.keep b ob q n hb hx⟩
def Un.kept(k:∀b u,h.get? b=some u->h'.get? b=some u):Un fs ex H H h h':=
 ⟨λb ob q _ _ _=>k b ob q,λb ob q _ _ _=>⟨ob.slots,k b ob q⟩,λ_ _ _ n _=>n,λb ob q _=>⟨ob,k b ob q⟩,λ_ _ q=>q,λ_ _ _ q=>q,λ_ ps q=>⟨#[],by rw[q];simp⟩⟩
def Un.refl:Un fs ex H H h h:=Un.kept λ_ _ q=>q
def Un.laid(k:∀b u,h.get? b=some u->h'.get? b=some u)(hp:h.objs.size<=a)(hn:H a=none):Un fs ex H (upd H a o) h h' where
 keep:=λb u q _ _ _=>k b u q
 slot:=λb u q _ _ _=>⟨u.slots,k b u q⟩
 free:=λb u q n _=>by rw[bO (aaq (P6 (Xl q) hp))];exact n
 there:=λb u q _=>⟨u,k b u q⟩
 tups:=λb xs q=>by rw[bO (cF q hn)];exact q
 lW:=λb u xs q=>by rw[bO (cF q hn)];exact q
 mZ:=λb ps q=>⟨#[],by rw[bO (cF q hn),q];simp⟩
def Un.write(mu:FY (H x))(he:e=x\/H e=some (.own x))(k:∀b u,b≠e->h.get? b=some u->h'.get? b=some u)(yi:∃u,h'.get? e=some u):Un fs ex H (upd H x o) h h':=by
 have hx:∀b,H b=none->b≠x:=λb n z=>by subst z;rw[n]at mu;exact mu
 have hb:∀b,H b=none->b≠e:=λb n z=>by
  subst z;rcases he with r|r
  .exact hx b n r
  .rw[n]at r;cases r
 have hm:∀b u,H b=some u->¬ FY (some u)->b≠x:=λb u q nm z=>by subst z;rw[q]at mu;exact nm mu
 refine⟨λb u q n _ _=>k b u (hb b n) q,λb u q n _ _=>⟨u.slots,k b u (hb b n) q⟩,λb u q n _=>by rw[bO (hx b n)];exact n,λb u q _=>?_,
  λb xs q=>by rw[bO (hm b _ q λz=>z)];exact q,λb u xs q=>by rw[bO (hm b _ q λz=>z)];exact q,λb ps q=>⟨#[],by rw[bO (hm b _ q λz=>z),q];simp⟩⟩
 by_cases u6:b=e
 .subst u6;exact yi
 .exact⟨u,k b u u6 q⟩
end
noncomputable def FZ(h:Heap)(H:Hp):List Addr:=(List.range h.objs.size).filter λa=>(H a).isSome
noncomputable def lY(h:Heap)(H:Hp):Heap:=PySem.W.hideAll h (FZ h H)
def A7(h:Heap)(H:Hp):(lY h H).objs.size=h.objs.size:=PySem.W.hideAll_size _ _
def Dp{h:Heap}{H:Hp}{b:Addr}{o:Obj}(e:h.get? b=some o)(n:H b=none):(lY h H).get? b=some o:=
 PySem.W.hideAll_get _ e λhm=>by
  have q:(H b).isSome=true:=(List.mem_filter.mp hm).2;rw[n]at q;simp at q
def Ht{h:Heap}{H:Hp}{b:Addr}{o:Obj}(e:(lY h H).get? b=some o):h.get? b=some o/\H b=none:=by
 have e':h.get? b=some o:=PySem.W.of_hideAll (FZ h H) e;refine⟨e',?_⟩;cases q:H b with
 |none=>rfl
 |some x=>
  have hm:b∈FZ h H:=List.mem_filter.mpr ⟨List.mem_range.mpr (Xl e'),by simp[q]⟩;have z:(lY h H).get? b=none:=PySem.W.hideAll_none (FZ h H) hm;rw[z]at e;cases e
noncomputable def Hu(g h:Heap)(L:Addr):List (Addr×Obj):=(List.range h.objs.size).filterMap λa=>if a=L\/(g.get? a).isSome=true then none else (h.get? a).map λo=>(a,o)
noncomputable def rest(g h:Heap)(L d:Addr):List (Addr×Obj):=(Hu g h L).filter λp=>decide (p.1≠d)
structure Mod(K:PySem.W.Frag)(mg:Str->Option Value)(base:Heap):Prop where
 Ga:K.In base
 glob:base.Ns mainGlobals mg
 blt:∃mb,base.Ns builtinsNs mb/\∀x:Str,x≠"__name__" ->mb x=bootBuiltins x
 nolimit:base.NoLimit
structure Cx where
 prog:Program
 w:World
 K:PySem.W.Frag
 mg:Str->Option Value
 base:Heap
 A:Around
 N:List Str
 s₀:Shared
 H₀:Hp
 env:Env
 outer:List Env
 stack:List Env
 ex:List Addr
 fn:Str->Bool
 calm:Bool
 pn:List (Addr×Obj)
 xe:Value->Shared->Prop
noncomputable def frs(l:List Env):List Addr:=l.filterMap (·.frame)
noncomputable abbrev Cx.fs(X:Cx):List Addr:=frs X.outer
noncomputable def A8(sc:Scope)(x:Str):Prop:=sc.names.lookup x=some .local\/sc.names.lookup x=some .cell\/sc.names.lookup x=some .free
noncomputable def Loc(sc:Scope)(x:Str):Prop:=sc.names.lookup x=some .local\/sc.names.lookup x=some .cell
noncomputable def Look(env:Env)(h:Heap)(m:Str->Option Value)(x:Str)(u:Value):Prop:=
 (env.kindOf x=some .local/\m x=some u)\/((env.kindOf x=some .cell\/env.kindOf x=some .free)/\∃c,env.cells.lookup x=some c/\h.IsCell c (some u))
structure Cx.Ok(X:Cx):Prop where
 mod:Mod X.K X.mg X.base
 kind:X.env.scope.kind=.function
 glob:X.env.globals=mainGlobals
 blt:X.env.builtins=builtinsNs
 above:X.s₀.heap.objs.size<=X.env.locals
 inj:∀x y c,X.env.cells.lookup x=some c->X.env.cells.lookup y=some c->x=y
 has:∀x,(X.env.kindOf x=some .cell\/X.env.kindOf x=some .free)->∃c,X.env.cells.lookup x=some c
 yj:∀x c,X.fn x=true->X.env.cells.lookup x=some c->X.s₀.heap.objs.size<=c
 hd:X.calm=true->X.A.handled=none
 frames:X.A.frames=some X.stack
 stk:X.stack=X.outer\/(X.stack=X.env :: X.outer/\X.env.frame=some X.env.locals)
 Gb:∀b∈X.ex,b≠X.env.locals/\∀x c,X.env.cells.lookup x=some c->c≠b
 bs:∀b o,X.base.get? b=some o->X.s₀.heap.get? b=some o/\X.H₀ b=none
 sW:X.base.objs.size<=X.s₀.heap.objs.size
 rG:∀b o,X.base.get? b=some o->b∉X.ex
 rJ:∀b∈X.ex,b∉X.fs
 jr:X.s₀.heap.FunFrames X.base X.outer
 u7:∀b∈X.fs,X.H₀ b=none
structure Inv(X:Cx)(pins:List (Addr×Obj))(σ:List (Option V))(H:Hp)(s:Shared):Prop where
 ok:X.Ok
 os:s.os=X.s₀.os
 bare:AllBare s.gens
 base:Un X.fs X.ex X.H₀ H X.s₀.heap s.heap
 loc:∃m,s.heap.Ns X.env.locals m/\∀(i:Nat) (x:Str) (v:V),X.N[i]?=some x->σ[i]?=some (some v)->A8 X.env.scope x->∃u,RelV v u/\Look X.env s.heap m x u
 cell:∀x c,X.env.cells.lookup x=some c->∃v,s.heap.IsCell c v
 free:H X.env.locals=none
 jf:∀x c,X.env.cells.lookup x=some c->H c=none
 pin:∀p∈X.pn++pins,s.heap.get? p.1=some p.2/\H p.1=none/\p.1≠X.env.locals/\p.1∉X.fs/\∀v,p.2.data≠.cell v
 hok:gn X.prog X.w H s.heap
 len:σ.length=X.N.length
section
variable{X:Cx}{pins:List (Addr×Obj)}{σ:List (Option V)}{H H':Hp}{s:Shared}{h':Heap}
def Cx.Ok.VG(ok:X.Ok){b:Addr}{o:Obj}(e:X.base.get? b=some o):b∉X.fs:=λhb=>by
 have:=(ok.jr.mem hb).1;rw[e]at this;cases this
theorem Inv.bs(I:Inv X pins σ H s):∀b o,X.base.get? b=some o->s.heap.get? b=some o/\H b=none:=λb o e=>
 ⟨I.base.keep b o (I.ok.bs b o e).1 (I.ok.bs b o e).2 (I.ok.VG e) (I.ok.rG b o e),I.base.free b o (I.ok.bs b o e).1 (I.ok.bs b o e).2 (I.ok.rG b o e)⟩
def Inv.bk(I:Inv X pins σ H s):∀b o,X.base.get? b=some o->s.heap.get? b=some o:=λb o e=>(I.bs b o e).1
theorem Inv.mod(I:Inv X pins σ H s):Mod X.K X.mg X.base:=I.ok.mod
def Inv.gK(I:Inv X pins σ H s):X.K.In s.heap:=I.ok.mod.Ga.keeps I.bk
theorem Inv.lt(I:Inv X pins σ H s):X.env.locals<s.heap.objs.size:=let ⟨_,hn,_⟩:=I.loc;hn.lt
def Inv.sz(I:Inv X pins σ H s):X.s₀.heap.objs.size<=s.heap.objs.size:=aaa I.ok.above (ac2 I.lt)
def Inv.VH(I:Inv X pins σ H s){a:Addr}(h:s.heap.objs.size<=a):a∉X.fs:=λhb=>by
 obtain⟨_,o,ho,_⟩:=I.ok.jr.mem hb;exact absurd (P6 (Xl ho) (aaa I.sz h)) (aaB _)
def Inv.u9(I:Inv X pins σ H s):∀x c,X.env.cells.lookup x=some c->c≠X.env.locals:=λx c e z=>by
 obtain⟨v,o,ho,hd⟩:=I.cell x c e;obtain⟨m,⟨o',es,ep,ho',hd',_⟩,_⟩:=I.loc;rw[z,ho']at ho;cases ho;rw[hd']at hd;cases hd
theorem Inv.jr(I:Inv X pins σ H s):s.heap.FunFrames X.base X.outer:=by
 have all:∀(l:List Env),(∀b∈frs l,b∈X.fs)->X.s₀.heap.FunFrames X.base l->s.heap.FunFrames X.base l:=by
  intro l;induction l with
  |nil=>intro _ _;trivial
  |cons env r ih=>
   intro hs hl;obtain⟨hk,⟨L,o,hf,hn,ho,hd⟩,hr⟩:=hl;have hL:L∈X.fs:=hs L (by unfold frs;rw[aaJ,hf];exact aaG);obtain⟨sl,e⟩:=I.base.slot L o ho (I.ok.u7 L hL) hL λz=>I.ok.rJ L z hL;exact⟨hk,⟨L,_,hf,hn,e,hd⟩,ih (λb hb=>hs b (by unfold frs;rw[aaJ,hf];exact aag _ hb)) hr⟩
 exact all X.outer (λ_ hb=>hb) I.ok.jr
theorem Inv.stack(I:Inv X pins σ H s):s.heap.FunFrames X.base X.stack:=by
 rcases I.ok.stk with e|⟨e,hf⟩
 .rw[e];exact I.jr
 .rw[e];obtain⟨m,hn,_⟩:=I.loc;refine .cons (by rw[I.ok.kind];decide) hf hn ?_ I.jr;exact Heap.get?_none_of_le (aaa I.ok.sW I.ok.above)
def Inv.vc(I:Inv X pins σ H s):∀b∈frs X.stack,b∈X.env.locals :: X.fs:=λb hb=>by
 rcases I.ok.stk with e|⟨e,hf⟩
 .rw[e]at hb;exact aag _ hb
 .rw[e]at hb;unfold frs at hb;rw[aaJ,hf]at hb;exact hb
def Inv.yk(I:Inv X pins σ H s):∀b∈frs X.stack,H b=none:=λb hb=>by
 rcases List.mem_cons.mp (I.vc b hb)with e|hb
 .rw[e];exact I.free
 .obtain⟨_,o,ho,_⟩:=I.ok.jr.mem hb;exact I.base.free b o ho (I.ok.u7 b hb) λz=>I.ok.rJ b z hb
def Inv.step{g':Array GenState}{t':Nat}{d':Drawn}{ch:List Addr}(I:Inv X pins σ H s)
  (hch:∀b∈ch,(b∈X.ex\/X.s₀.heap.objs.size<=b)/\b≠X.env.locals/\(∀x c,X.env.cells.lookup x=some c->c≠b)/\∀p∈X.pn++pins,p.1≠b)
  (keep:∀b o,b≠X.env.locals->b∉X.fs->b∉ch->s.heap.get? b=some o->H b=none->h'.get? b=some o)
  (slot:∀b o,b≠X.env.locals->b∈X.fs->b∉ch->s.heap.get? b=some o->H b=none->∃sl,h'.get? b=some { o with slots:=sl }) (free:∀b o,b∉ch->s.heap.get? b=some o->H b=none->H' b=none)
  (there:∀b o,b∉ch->s.heap.get? b=some o->∃o',h'.get? b=some o')
  (tups:∀b xs,H b=some (.tup xs)->H' b=some (.tup xs)) (lW:∀b o u,H b=some (.bU o u)->H' b=some (.bU o u)) (mZ:∀b ps,H b=some (.u5 ps)->∃more,H' b=some (.u5 (ps++more)))
  (ns:∀m,s.heap.Ns X.env.locals m->h'.Ns X.env.locals m) (hok:gn X.prog X.w H' h') (hg:AllBare g') :
  Inv X pins σ H' { s with heap:=h',gens:=g',drawn:=d',toks:=t' }:=by
 have TJ:∀b o,X.s₀.heap.get? b=some o->b≠X.env.locals:=λb o e=>aaq (P6 (Xl e) I.ok.above);have Gd:∀b o,X.s₀.heap.get? b=some o->b∉X.ex->b∉ch:=λb o e hx hb=>by
  rcases(hch b hb).1 with z|z
  .exact hx z
  .exact absurd (P6 (Xl e) z) (aaB _)
 have cellK:∀x c,X.env.cells.lookup x=some c->∀v,s.heap.IsCell c v->h'.IsCell c v:=λx c e v ⟨o,ho,hd⟩=>by
  have A9:c∉ch:=λz=>(hch c z).2.2.1 x c e rfl;by_cases hc:c∈X.fs
  .obtain⟨sl,q⟩:=slot c o (I.u9 x c e) hc A9 ho (I.jf x c e);exact⟨_,q,hd⟩
  .exact⟨o,keep c o (I.u9 x c e) hc A9 ho (I.jf x c e),hd⟩
 refine⟨I.ok,I.os,hg,⟨λb o e n hb hx=>?_,λb o e n hb hx=>?_,λb o e n hx=>?_,λb o e hx=>?_,λb xs e=>tups b xs (I.base.tups b xs e),λb o xs e=>lW b o xs (I.base.lW b o xs e),λb ps e=>?_⟩,?_,λx c e=>?_,?_,λx c e=>?_,λp hp=>?_,hok,I.len⟩
 .exact keep b o (TJ b o e) hb (Gd b o e hx) (I.base.keep b o e n hb hx) (I.base.free b o e n hx)
 .obtain⟨sl,e1⟩:=I.base.slot b o e n hb hx;obtain⟨Xm,e2⟩:=slot b _ (TJ b o e) hb (Gd b o e hx) e1 (I.base.free b o e n hx);exact⟨Xm,e2⟩
 .obtain⟨o',e1⟩:=I.base.there b o e hx;exact free b o' (Gd b o e hx) e1 (I.base.free b o e n hx)
 .obtain⟨o',e1⟩:=I.base.there b o e hx;exact there b o' (Gd b o e hx) e1
 .obtain⟨m1,e1⟩:=I.base.mZ b ps e;obtain⟨m2,e2⟩:=mZ b _ e1;exact⟨m1++m2,by rw[e2,Array.append_assoc]⟩
 .obtain⟨m,hn,hl⟩:=I.loc;refine⟨m,ns m hn,λi x v e1 e2 e3=>?_⟩;obtain⟨u,r,l⟩:=hl i x v e1 e2 e3;refine⟨u,r,?_⟩;rcases l with l|⟨k,c,e,z⟩
  .exact .inl l
  .exact .inr ⟨k,c,e,cellK x c e _ z⟩
 .obtain⟨v,z⟩:=I.cell x c e;exact⟨v,cellK x c e v z⟩
 .obtain⟨m,⟨o,_,_,ho,_⟩,_⟩:=I.loc;exact free _ o (λz=>(hch _ z).2.1 rfl) ho I.free
 .obtain⟨v,o,ho,hd⟩:=I.cell x c e;exact free c o (λz=>(hch c z).2.2.1 x c e rfl) ho (I.jf x c e)
 .obtain⟨e,n,ne,nf,d⟩:=I.pin p hp;have A9:p.1∉ch:=λz=>(hch p.1 z).2.2.2 p hp rfl;exact⟨keep p.1 p.2 ne nf A9 e n,free p.1 p.2 A9 e n,ne,nf,d⟩
def Inv.un{t':Nat}(I:Inv X pins σ H s)(u:Un X.fs [] H H' s.heap h')(hok:gn X.prog X.w H' h'):Inv X pins σ H' { s with heap:=h',toks:=t' }:=by
 obtain⟨m,⟨o,es,ep,ho,r⟩,_⟩:=id I.loc;obtain⟨sl,hL⟩:=u.any ho I.free (by simp);exact I.step (g':=s.gens) (d':=s.drawn) (ch:=[]) (λ_ z=>nomatch z) (λb o _ hb _ e n=>u.keep b o e n hb (by simp)) (λb o _ hb _ e n=>u.slot b o e n hb (by simp)) (λb o _ e n=>u.free b o e n (by simp)) (λb o _ e=>u.there b o e (by simp)) u.tups u.lW u.mZ (λm' hm=>by
  obtain⟨o',es',J9,ho',r'⟩:=hm;rw[ho]at ho';cases ho';exact⟨_,es',J9,hL,r'⟩) hok I.bare
def Inv.call{g':Array GenState}{t':Nat}{d':Drawn}{ch:List Addr}(I:Inv X pins σ H s)(u:Un (frs X.stack) ch H H' s.heap h')(hok:gn X.prog X.w H' h')(hg:AllBare g')
  (hch:∀b∈ch,(b∈X.ex\/X.s₀.heap.objs.size<=b)/\b≠X.env.locals/\(∀x c,X.env.cells.lookup x=some c->c≠b)/\∀p∈X.pn++pins,p.1≠b) :
  Inv X pins σ H' { s with heap:=h',gens:=g',drawn:=d',toks:=t' }:=by
 obtain⟨m,⟨o,es,ep,ho,r⟩,_⟩:=id I.loc;obtain⟨sl,hL⟩:=u.any ho I.free λz=>(hch _ z).2.1 rfl;exact I.step (ch:=ch) hch (λb o hL hb hc e n=>u.keep b o e n (λz=>(List.mem_cons.mp (I.vc b z)).elim hL hb) hc) (λb o _ _ hc e n=>u.any e n hc) (λb o hc e n=>u.free b o e n hc) (λb o hc e=>u.there b o e hc) u.tups u.lW u.mZ (λm' hm=>by
  obtain⟨o',es',J9,ho',r'⟩:=hm;rw[ho]at ho';cases ho';exact⟨_,es',J9,hL,r'⟩) hok hg
def Inv.turned{t':Nat}{it:Addr}(I:Inv X pins σ H s)(k:∀b o,b≠it->s.heap.get? b=some o->h'.get? b=some o)(hn:H it=none)(hL:it≠X.env.locals)
  (h1:it∈X.ex\/X.s₀.heap.objs.size<=it) (h2:∀x c,X.env.cells.lookup x=some c->c≠it) (h3:∀p∈X.pn++pins,p.1≠it):Inv X pins σ H { s with heap:=h',toks:=t' }:=by
 have TL:∀b u,H b=some u->b≠it:=λb u e z=>by rw[z,hn]at e;cases e
 refine I.step (g':=s.gens) (d':=s.drawn) (ch:=[it]) (λb hb=>?_) (λb o _ _ hc e _=>k b o (λz=>hc (by simp[z])) e) (λb o _ _ hc e _=>⟨o.slots,k b o (λz=>hc (by simp[z])) e⟩) (λ_ _ _ _ n=>n)
  (λb o hc e=>⟨o,k b o (λz=>hc (by simp[z])) e⟩) (λ_ _ e=>e) (λ_ _ _ e=>e) (λb ps e=>⟨#[],by rw[e];simp⟩) (λm hm=>?_) (λb u e=>?_) I.bare
 .have e:b=it:=by simpa using hb
  subst e;exact⟨h1,hL,h2,h3⟩
 .obtain⟨o,es,ep,ho,r⟩:=hm;exact⟨o,es,ep,k _ o (abl hL) ho,r⟩
 .refine(I.hok b u e).stay (λc v hc q=>k c v ?_ q) (λ_ q=>q) λ_ _ q=>q;rcases hc with z|z
  .rw[z];exact TL b u e
  .exact TL c _ z
def Inv.tok(I:Inv X pins σ H s)(t:Nat):Inv X pins σ H { s with toks:=t }:=I.un (h':=s.heap) (t':=t) Un.refl I.hok
theorem Inv.kept{t':Nat}(I:Inv X pins σ H s)(k:∀b u,s.heap.get? b=some u->h'.get? b=some u):Inv X pins σ H { s with heap:=h',toks:=t' }:=I.un (Un.kept k) (I.hok.kept k)
theorem Inv.laid{a:Addr}{o:HO}{t':Nat}(I:Inv X pins σ H s)(k:∀b u,s.heap.get? b=some u->h'.get? b=some u)(hp:s.heap.objs.size<=a)(new:eG X.prog X.w (upd H a o) h' a o) :
  Inv X pins σ (upd H a o) { s with heap:=h',toks:=t' }:=I.un (Un.laid k hp (I.hok.fresh hp)) (I.hok.laid k hp new)
theorem Inv.write{x e:Addr}{o:HO}{t':Nat}(I:Inv X pins σ H s)(mu:FY (H x))(he:e=x\/H e=some (.own x))(k:∀b u,b≠e->s.heap.get? b=some u->h'.get? b=some u)(yi:∃u,h'.get? e=some u)
  (new:eG X.prog X.w (upd H x o) h' x o):Inv X pins σ (upd H x o) { s with heap:=h',toks:=t' }:=I.un (Un.write mu he k yi) (I.hok.write mu he k yi new)
def Inv.yl{Ge:List (Addr×Obj)}(I:Inv X pins σ H s)(h:∀p∈Ge,s.heap.get? p.1=some p.2/\H p.1=none/\p.1≠X.env.locals/\p.1∉X.fs/\∀v,p.2.data≠.cell v):Inv X Ge σ H s:=
 ⟨I.ok,I.os,I.bare,I.base,I.loc,I.cell,I.free,I.jf,λp hp=>(List.mem_append.mp hp).elim (λz=>I.pin p (aaO _ z)) (h p),I.hok,I.len⟩
def vd{N:List Str}(hN:N.Nodup){i j:Nat}{x:Str}(a:N[i]?=some x)(b:N[j]?=some x):i=j:=by
 obtain⟨h1,e1⟩:=List.getElem?_eq_some_iff.mp a;obtain⟨h2,e2⟩:=List.getElem?_eq_some_iff.mp b;exact(List.getElem_inj hN).mp (e1.trans e2.symm)
def sX{M:Model}{A:Around}{E:Value->Shared->Prop}{i:Nat}{x:Str}{v:V}{u:Value}{Q:Unit->Shared->Prop}(I:Inv X pins σ H s)(hN:X.N.Nodup)(hi:X.N[i]?=some x)(hx:Loc X.env.scope x)(r:RelV v u)
  (h:∀s',Inv X pins (σ.set i (some v)) H s'->(∃a,Heap.SameBut a s.heap s'.heap/\(a=X.env.locals\/X.env.cells.lookup x=some a))->Q () s') (hf:X.fn x=true\/X.env.scope.names.lookup x=some .local:=by first|exact .inl rfl|exact .inr rfl|assumption):wpAny M A (storeName X.env x u) Q E s:=by
 obtain⟨m,hn,hl⟩:=id I.loc;have hcls:(X.env.scope.kind==.class || (X.env.scope.kind==.module&&X.env.locals != X.env.globals))=false:=by rw[I.ok.kind];rfl
 have Ka:i<σ.length:=by rw[I.len];exact(List.getElem?_eq_some_iff.mp hi).1
 have u9:=I.u9;have tracked:∀{a:Addr} {h':Heap},(∃o,s.heap.get? a=some o/\H a=none)->Heap.SameBut a s.heap h'->gn X.prog X.w H h':=λ{a h'} ha hs b ob e=>by
  obtain⟨_,_,hfree⟩:=ha;refine(I.hok b ob e).stay (λc w' hc q=>(hs.2 c ?_).trans q) (λ_ q=>q) λ_ _ q=>q;rintro rfl;rcases hc with rfl|hc
  .rw[hfree]at e;cases e
  .rw[hfree]at hc;cases hc
 rcases hx with hk|hk
 .refine wpAny_storeName_local hk hn (λh' hn' hs=>?_) hcls;obtain⟨oL,_,_,Xn,_⟩:=id hn;refine h _ ⟨I.ok,I.os,I.bare,⟨λb o e n hb hx=>?_,λb o e n hb hx=>?_,I.base.free,λb o e hx=>?_,I.base.tups,I.base.lW,I.base.mZ⟩,⟨_,hn',λj y v' e1 e2 e3=>?_⟩,λy c e=>?_,I.free,I.jf,λp hp=>?_,tracked ⟨oL,Xn,I.free⟩ hs,by simpa using I.len⟩ ⟨_,hs,.inl rfl⟩
  .exact(hs.2 b (aaq (P6 (Xl e) I.ok.above))).trans (I.base.keep b o e n hb hx)
  .obtain⟨sl,e1⟩:=I.base.slot b o e n hb hx;exact⟨sl,(hs.2 b (aaq (P6 (Xl e) I.ok.above))).trans e1⟩
  .obtain⟨o',e1⟩:=I.base.there b o e hx;exact⟨o',(hs.2 b (aaq (P6 (Xl e) I.ok.above))).trans e1⟩
  .by_cases hj:j=i
   .subst hj;rw[hi]at e1;cases e1;rw[Y6 Ka]at e2;cases e2;exact⟨u,r,.inl ⟨hk,by simp⟩⟩
   .rw[WD (abl hj)]at e2;obtain⟨u',r',q⟩:=hl j y v' e1 e2 e3;refine⟨u',r',?_⟩;rcases q with ⟨k,e⟩|⟨k,c,e,z⟩
    .refine .inl ⟨k,?_⟩;have:y≠x:=λe=>hj (vd hN e1 (e▸hi));simp[this,e]
    .exact .inr ⟨k,c,e,z.sameBut hs (u9 y c e)⟩
  .obtain⟨w',z⟩:=I.cell y c e;exact⟨w',z.sameBut hs (u9 y c e)⟩
  .obtain⟨e,n,ne,nf,d⟩:=I.pin p hp;exact⟨(hs.2 p.1 ne).trans e,n,ne,nf,d⟩
 .have hfn:X.fn x=true:=by
   rcases hf with z|z
   .exact z
   .rw[z]at hk;cases hk
  obtain⟨c,hc⟩:=I.ok.has x (.inl hk);obtain⟨w',z⟩:=I.cell x c hc;refine wpAny_storeName_cell I.ok.kind hk hc z (λh' hc' hs=>?_);obtain⟨oc,hoc,VI⟩:=id z;refine h { s with heap:=h' } ⟨I.ok,I.os,I.bare,⟨λb o e n hb hx=>?_,λb o e n hb hx=>?_,I.base.free,λb o e hx=>?_,I.base.tups,I.base.lW,I.base.mZ⟩,⟨m,hn.sameBut hs (abl (u9 x c hc)),λj y v' e1 e2 e3=>?_⟩,λy c' e=>?_,I.free,I.jf,λp hp=>?_,tracked ⟨oc,hoc,I.jf x c hc⟩ hs,by simpa using I.len⟩ ⟨c,hs,.inr hc⟩
  .exact(hs.2 b (aaq (P6 (Xl e) (I.ok.yj x c hfn hc)))).trans (I.base.keep b o e n hb hx)
  .obtain⟨sl,e1⟩:=I.base.slot b o e n hb hx;exact⟨sl,(hs.2 b (aaq (P6 (Xl e) (I.ok.yj x c hfn hc)))).trans e1⟩
  .obtain⟨o',e1⟩:=I.base.there b o e hx;exact⟨o',(hs.2 b (aaq (P6 (Xl e) (I.ok.yj x c hfn hc)))).trans e1⟩
  .by_cases hj:j=i
   .subst hj;rw[hi]at e1;cases e1;rw[Y6 Ka]at e2;cases e2;exact⟨u,r,.inr ⟨.inl hk,c,hc,hc'⟩⟩
   .rw[WD (abl hj)]at e2;obtain⟨u',r',q⟩:=hl j y v' e1 e2 e3;refine⟨u',r',?_⟩;rcases q with q|⟨k,c',e,z'⟩
    .exact .inl q
    .refine .inr ⟨k,c',e,z'.sameBut hs ?_⟩;rintro rfl;exact hj (vd hN e1 (I.ok.inj _ _ _ e hc▸hi))
  .by_cases hcc:c'=c
   .subst hcc;exact⟨_,hc'⟩
   .obtain⟨w2,z2⟩:=I.cell y c' e;exact⟨w2,z2.sameBut hs hcc⟩
  .obtain⟨e,n,ne,nf,d⟩:=I.pin p hp;refine⟨(hs.2 p.1 ?_).trans e,n,ne,nf,d⟩;intro q;rw[q,hoc]at e;have q':oc=p.2:=qV e;exact d w' (by rw[<-q'];exact VI)
def ve{M:Model}{A:Around}{E:Value->Shared->Prop}{i:Nat}{x:Str}{v:V}{u:Value}{Q:Unit->Shared->Prop}(I:Inv X pins σ H s)(hN:X.N.Nodup)(hi:X.N[i]?=some x)(hx:Loc X.env.scope x)(r:RelV v u)
  (h:∀s',Inv X pins (σ.set i (some v)) H s'->Q () s') (hf:X.fn x=true\/X.env.scope.names.lookup x=some .local:=by first|exact .inl rfl|exact .inr rfl|assumption):wpAny M A (storeName X.env x u) Q E s:=
 sX I hN hi hx r (λs' I' _=>h s' I') hf
def Inv.P7{s':Shared}{ch:List Addr}(I:Inv X pins σ H s)(ho:s'.os=s.os)(u:Un (frs X.stack) ch H H' s.heap s'.heap)(hok:gn X.prog X.w H' s'.heap)(hg:AllBare s'.gens)
  (hch:∀b∈ch,(b∈X.ex\/X.s₀.heap.objs.size<=b)/\b≠X.env.locals/\(∀x c,X.env.cells.lookup x=some c->c≠b)/\∀p∈X.pn++pins,p.1≠b):Inv X pins σ H' s':=by
 obtain⟨h',g',d',t',o'⟩:=s';have e:o'=s.os:=ho;subst e;exact I.call (g':=g') (t':=t') (d':=d') u hok hg hch
end
abbrev XK:=Value->Option Addr->Hp->Prop
abbrev St:=List (Option V)
abbrev VK:=V->Hp->Prop
abbrev TE:=St->Hp->VK->Prop
abbrev TT:=St->Hp->(Bool->Hp->Prop)->Prop
abbrev TA:=St->Hp->(List V->Hp->Prop)->Prop
structure Ends where
 nx:St->Hp->Prop
 rt:VK
 bk:St->Hp->Prop:=λ_ _=>False
 ct:St->Hp->Prop:=λ_ _=>False
abbrev TS:=Ends->St->Hp->Prop
noncomputable def EP(X:Cx)(pins:List (Addr×Obj))(σ:St)(Q:VK)(u:Value)(s':Shared):Prop:=∃v H',Inv X pins σ H' s'/\RelV v u/\Q v H'
noncomputable def TP(X:Cx)(pins:List (Addr×Obj))(σ:St)(Q:Bool->Hp->Prop)(b:Bool)(s':Shared):Prop:=∃H',Inv X pins σ H' s'/\Q b H'
noncomputable def AP(X:Cx)(pins:List (Addr×Obj))(σ:St)(Q:List V->Hp->Prop)(us:List Value)(s':Shared):Prop:=∃vs H',Inv X pins σ H' s'/\Vals vs us/\Q vs H'
noncomputable def SP(X:Cx)(pins:List (Addr×Obj))(D:Ends)(f:Flow)(s':Shared):Prop:=
 match f with
 |.next=>∃σ' H',Inv X pins σ' H' s'/\D.nx σ' H'
 |.brk=>∃σ' H',Inv X pins σ' H' s'/\D.bk σ' H'
 |.cont=>∃σ' H',Inv X pins σ' H' s'/\D.ct σ' H'
 |.ret u=>∃v σ' H',Inv X pins σ' H' s'/\RelV v u/\D.rt v H'
noncomputable def PE(X:Cx)(e:Expr)(t:TE):Prop:=
 ∀(pins:List (Addr×Obj)) (s:Shared) (σ:St) (H:Hp) (Q:VK),Inv X pins σ H s->t σ H Q->wpAny (model X.prog X.w) X.A (eval e X.env) (EP X pins σ Q) X.xe s
noncomputable def PT(X:Cx)(e:Expr)(t:TT):Prop:=
 ∀(pins:List (Addr×Obj)) (s:Shared) (σ:St) (H:Hp) (Q:Bool->Hp->Prop),Inv X pins σ H s->t σ H Q->wpAny (model X.prog X.w) X.A (isTrue e X.env (eval e X.env)) (TP X pins σ Q) X.xe s
noncomputable def PW(X:Cx)(e:Expr)(t:TT):Prop:=
 ∀(whole:Sem Value) (pins:List (Addr×Obj)) (s:Shared) (σ:St) (H:Hp) (Q:Bool->Hp->Prop),Inv X pins σ H s->t σ H Q->wpAny (model X.prog X.w) X.A (isTrue e X.env whole) (TP X pins σ Q) X.xe s
def PW.pt{X:Cx}{e:Expr}{t:TT}(h:PW X e t):PT X e t:=h _
noncomputable def PA(X:Cx)(es:List Expr)(t:TA):Prop:=
 ∀(pos:Pos) (pins:List (Addr×Obj)) (s:Shared) (σ:St) (H:Hp) (Q:List V->Hp->Prop),Inv X pins σ H s->t σ H Q->wpAny (model X.prog X.w) X.A (spliced (backTo pos (starEach es X.env))) (AP X pins σ Q) X.xe s
noncomputable def PS(X:Cx)(st:Stmt)(t:TS):Prop:=
 ∀(pins:List (Addr×Obj)) (s:Shared) (σ:St) (H:Hp) (D:Ends),Inv X pins σ H s->t D σ H->wpAny (model X.prog X.w) X.A (exec st X.env) (SP X pins D) X.xe s
noncomputable def iT(X:Cx)(st:List Stmt)(t:TS):Prop:=
 ∀(pins:List (Addr×Obj)) (s:Shared) (σ:St) (H:Hp) (D:Ends),Inv X pins σ H s->t D σ H->wpAny (model X.prog X.w) X.A (execs st X.env) (SP X pins D) X.xe s
def bF{α:Type}{t:Sem α}{Q Q':α->Shared->Prop}{M:Model}{A:Around}{E:Value->Shared->Prop}{s:Shared}(h:wpAny M A t Q E s)(hQ:∀a s,Q a s->Q' a s):wpAny M A t Q' E s:=aa1 h hQ λ_ _ x=>x
section
variable{X:Cx}
def bin{a b:Expr}{ta tb:TE}(ha:PE X a ta)(hb:PE X b tb){pins:List (Addr×Obj)}{s:Shared}{σ:St}{H:Hp}{R:V->V->Hp->Prop}(I:Inv X pins σ H s)(h:ta σ H λx H1=>tb σ H1 λy H2=>R x y H2)
  {α:Type} {Q:α->Shared->Prop} {f:Value->Value->Sem α}
  (hf:∀v u s2 x y H2,Inv X pins σ H2 s2->RelV x v->RelV y u->R x y H2->wpAny (model X.prog X.w) X.A (f v u) Q X.xe s2) :
  wpAny (model X.prog X.w) X.A (eval a X.env) (λv s₁=>wpAny (model X.prog X.w) X.A (eval b X.env) (λu s₂=>wpAny (model X.prog X.w) X.A (f v u) Q X.xe s₂) X.xe s₁) X.xe s:=by
 refine bF (ha pins s σ H _ I h) λv s1 ⟨x,H1,I1,r1,q1⟩=>?_;refine bF (hb pins s1 σ H1 _ I1 q1) λu s2 ⟨y,H2,I2,r2,q2⟩=>?_;exact hf v u s2 x y H2 I2 r1 r2 q2
noncomputable def Kc(i:Nat):TE:=λσ H Q=>∃v,σ[i]?=some (some v)/\Q v H
noncomputable def tC(v:V):TE:=λ_ H Q=>Q v H
def Ba {i:Nat}{x:Str}{pos:Pos}(hN:X.N[i]?=some x) (hv:A8 X.env.scope x) (hd:(x==("__debug__" : Str))=false:=by decide) (hcd:(x==("__classdict__" : Str))=false:=by decide):PE X (.Name x pos) (Kc i):=by
 intro pins s σ H Q I h;obtain⟨v,e,h⟩:=h;obtain⟨m,hn,hl⟩:=I.loc;obtain⟨u,r,l⟩:=hl i x v hN e hv;have fin:EP X pins σ Q u s:=⟨v,H,I,r,h⟩
 rcases l with ⟨hk,hm⟩|⟨hk,c,hc,hcell⟩
 .exact wpAny_Name (wpAny_loadName_local I.ok.kind hk hn hm fin) hd
 .rcases hk with hk|hk
  .exact wpAny_Name (wpAny_loadName_cell I.ok.kind hk hc hcell fin) hd
  .exact wpAny_Name (wpAny_loadName_free I.ok.kind hk hc hcell fin hcd) hd
def Kd{i j pos}:PE X (.Constant (.int i) j pos) (tC (.int i)):=λ_ _ _ H _ I h=>wpAny_Constant_int ⟨.int i,H,I.tok _,⟨_,rfl⟩,h⟩
def P8{b j pos}:PE X (.Constant (.bool b) j pos) (tC (.bl b)):=λ_ _ _ H _ I h=>Constant_bool ⟨.bl b,H,I,rfl,h⟩
def Ke{j pos}:PE X (.Constant .none j pos) (tC .bz):=λ_ _ _ H _ I h=>Constant_none ⟨.bz,H,I,rfl,h⟩
def Kf{x j pos}:PE X (.Constant (.str x) j pos) (tC (.str x)):=λ_ _ _ H _ I h=>Calls.Constant_str ⟨.str x,H,I.tok _,⟨_,rfl⟩,h⟩
noncomputable def Gl(X:Cx)(x:Str):Prop:=X.env.kindOf x=some .globalImplicit
def ym{E:Value->Shared->Prop}{pins:List (Addr×Obj)}{s:Shared}{σ:St}{H:Hp}{x:Str}{u:Value}{pos:Pos}{Q:Value->Shared->Prop}(I:Inv X pins σ H s)(hg:Gl X x)(hm:X.mg x=some u)(h:Q u s)
  (hd:(x==("__debug__" : Str))=false:=by decide):wpAny (model X.prog X.w) X.A (eval (.Name x pos) X.env) Q E s:=
 acj I.ok.kind hg (Calls.loadGlobal_global (by rw[I.ok.glob];exact I.mod.glob.keeps I.bk) hm h) hd
def jS{E:Value->Shared->Prop}{pins:List (Addr×Obj)}{s:Shared}{σ:St}{H:Hp}{x:Str}{u:Value}{pos:Pos}{Q:Value->Shared->Prop}(I:Inv X pins σ H s)(hg:Gl X x)(hm:X.mg x=none)(hv:bootBuiltins x=some u)(h:Q u s)
  (hn:x≠"__name__" :=by decide) (hd:(x==("__debug__" : Str))=false:=by decide):wpAny (model X.prog X.w) X.A (eval (.Name x pos) X.env) Q E s:=by
 obtain⟨mb,h1,h2⟩:=I.mod.blt;exact acj I.ok.kind hg (Calls.loadGlobal_builtin (by rw[I.ok.glob];exact I.mod.glob.keeps I.bk) hm (by rw[I.ok.blt];exact h1.keeps I.bk) ((h2 x hn).trans hv) h) hd
def rK {x:Str}{v:V}{u:Value}{pos:Pos}(hg:Gl X x) (hm:X.mg x=some u) (r:RelV v u) (hd:(x==("__debug__" : Str))=false:=by decide):PE X (.Name x pos) (tC v):=
 λ_ _ _ H _ I h=>ym I hg hm ⟨v,H,I,r,h⟩ hd
def Hv {x:Str}{v:V}{u:Value}{pos:Pos}(hg:Gl X x) (hm:X.mg x=none) (hv:bootBuiltins x=some u) (r:RelV v u) (hn:x≠"__name__" :=by decide) (hd:(x==("__debug__" : Str))=false:=by decide):PE X (.Name x pos) (tC v):=
 λ_ _ _ H _ I h=>jS I hg hm hv ⟨v,H,I,r,h⟩ hn hd
variable{a b:Expr}{ta tb:TE}{pos:Pos}
noncomputable def PC(X:Cx)(op:CmpOp)(a b:Expr)(t:TE):Prop:=
 ∀(pins:List (Addr×Obj)) (s:Shared) (σ:St) (H:Hp) (Q:VK),Inv X pins σ H s->t σ H Q->
  wpAny (model X.prog X.w) X.A (eval a X.env) (λv s₁=>wpAny (model X.prog X.w) X.A (eval b X.env) (λu s₂=>wpAny (model X.prog X.w) X.A (compareOp op v u) (EP X pins σ Q) X.xe s₂) X.xe s₁) X.xe s
def Dq(b:Expr){op:CmpOp}(h:op≠.In)(h2:op≠.NotIn):behindInMarks op b=false:=by
 have e1:(op==CmpOp.In)=false:=by cases op<;>first|rfl|exact absurd rfl h
 have e2:(op==CmpOp.NotIn)=false:=by cases op<;>first|rfl|exact absurd rfl h2
 cases b<;>simp[behindInMarks,e1,e2]
noncomputable def tB(t:TE):TT:=λσ H Q=>t σ H λx H1=>∃c,x=.bl c/\Q c H1
def Kg{op:CmpOp}{t:TE}(h:PC X op a b t)(h1:behindInMarks op b=false:=by first|exact Dq _ (by decide) (by decide)|rfl):PT X (.Compare a [op] [b] pos) (tB t):=by
 intro pins s σ H Q I hw;refine wpAny_isTrue_Compare1 (bF (h pins s σ H _ I hw) λv s1 h1=>bF h1 λu s2 h2=>bF h2 λc s3 ⟨x,H1,I1,r1,q1⟩=>?_) h1;obtain⟨d,rfl,q⟩:=q1;cases r1;exact aaP ⟨H1,I1,q⟩
variable{tA Gf:TT}{rest:List Expr}
noncomputable def VJ(t u:TT):TT:=λσ H Q=>t σ H λc H1=>if c=true then u σ H1 Q else Q false H1
noncomputable def Xo(t u:TT):TT:=λσ H Q=>t σ H λc H1=>if c=true then Q true H1 else u σ H1 Q
noncomputable def VL(t:TT):TT:=λσ H Q=>t σ H λc H1=>Q (!c) H1
def Hw(ha:PT X a tA):PW X (.BoolOp .And [a] pos) tA:=by
 intro wh pins s σ H Q I h;refine isTrue_and (bF (ha pins s σ H Q I h) λc s1 e=>?_);cases c with
 |true=>exact isTrue_and_nil e
 |false=>exact e
def Kh(ha:PT X a tA):PW X (.BoolOp .Or [a] pos) tA:=by
 intro wh pins s σ H Q I h;refine isTrue_or (bF (ha pins s σ H Q I h) λc s1 e=>?_);cases c with
 |false=>exact isTrue_or_nil e
 |true=>exact e
def Kl(ha:PT X a tA)(hb:PW X (.BoolOp .And (b :: rest) pos) Gf):PW X (.BoolOp .And (a :: b :: rest) pos) (VJ tA Gf):=by
 intro wh pins s σ H Q I h;refine isTrue_and (bF (ha pins s σ H _ I h) λc s1 ⟨H1,I1,q1⟩=>?_);cases c with
 |true=>exact hb wh pins s1 σ H1 Q I1 q1
 |false=>exact⟨H1,I1,q1⟩
def P9(ha:PT X a tA)(hb:PW X (.BoolOp .Or (b :: rest) pos) Gf):PW X (.BoolOp .Or (a :: b :: rest) pos) (Xo tA Gf):=by
 intro wh pins s σ H Q I h;refine isTrue_or (bF (ha pins s σ H _ I h) λc s1 ⟨H1,I1,q1⟩=>?_);cases c with
 |true=>exact⟨H1,I1,q1⟩
 |false=>exact hb wh pins s1 σ H1 Q I1 q1
def Km(ha:PT X a tA):PT X (.UnaryOp .Not a pos) (VL tA):=by
 intro pins s σ H Q I h;exact isTrue_not (ha pins s σ H (λc H1=>Q (!c) H1) I h)
noncomputable def Qa(ta tb:TE):TE:=λσ H Q=>ta σ H λx H1=>∃c,x=.bl c/\if c=true then tb σ H1 Q else Q (.bl false) H1
def Kn{op}{t:TE}(h:PE X a t):PE X (.BoolOp op [a] pos) t:=λpins s σ H Q I hw=>BoolOp_one (h pins s σ H Q I hw)
def Ko(ha:PE X a ta)(hb:PE X (.BoolOp .And (b :: rest) pos) tb):PE X (.BoolOp .And (a :: b :: rest) pos) (Qa ta tb):=by
 intro pins s σ H Q I h;refine BoolOp_and (bF (ha pins s σ H _ I h) λv s1 ⟨x,H1,I1,r1,q1⟩=>?_);obtain⟨c,rfl,q1⟩:=q1;cases r1;refine aaP ?_;cases c with
 |true=>exact hb pins s1 σ H1 Q I1 q1
 |false=>exact⟨.bl false,H1,I1,rfl,q1⟩
noncomputable def Xp(t:TT)(ta tb:TE):TE:=λσ H Q=>t σ H λc H1=>if c=true then ta σ H1 Q else tb σ H1 Q
def Dr{c:Expr}(hc:PT X c tA)(ha:PE X a ta)(hb:PE X b tb):PE X (.IfExp c a b pos) (Xp tA ta tb):=by
 intro pins s σ H Q I h;refine wpAny_IfExp (bF (hc pins s σ H _ I h) λd s1 ⟨H1,I1,q1⟩=>?_);cases d with
 |true=>exact ha pins s1 σ H1 Q I1 q1
 |false=>exact hb pins s1 σ H1 Q I1 q1
end
noncomputable def fS(K:PySem.W.Frag)(H:Hp)(a:Addr)(xs:List V):Prop:=
 Rd H a (.lst xs)\/
  ∃(o:Obj) (its:Array Value) (n:Nat),K.lookup a=some o/\o.cls=.type "list" /\o.dict=none/\o.data=.seq its n/\its.size<=sizeLine/\Vals xs its.toList
noncomputable def ee(K:PySem.W.Frag)(H:Hp)(a:Addr)(xs:List V):Prop:=
 Rd H a (.tup xs)\/
  ∃(o:Obj) (its:Array Value) (n:Nat),K.lookup a=some o/\o.cls=.type "tuple" /\o.data=.seq its n/\its.size<=sizeLine/\Vals xs its.toList
noncomputable def VM:Value->Option V
 |.none=>some .bz
 |.bool b=>some (.bl b)
 |.int i _=>some (.int i)
 |.str x _=>some (.str x)
 |.bytes b _=>some (.A6 b)
 |.float b _=>some (.yh b)
 |.ref a=>some (.ref a)
 |.type n=>some (.ty n)
 |_=>none
def RelV.abs{x:V}{u:Value}(r:RelV x u):VM u=some x:=by
 cases x with
 |bz=>cases r;rfl
 |bl _=>cases r;rfl
 |int _=>obtain⟨t,rfl⟩:=r;rfl
 |str _=>obtain⟨t,rfl⟩:=r;rfl
 |A6 _=>obtain⟨t,rfl⟩:=r;rfl
 |yh _=>obtain⟨t,rfl⟩:=r;rfl
 |ref _=>cases r;rfl
 |ty _=>cases r;rfl
theorem RelV.inj{x y:V}{u:Value}(r:RelV x u)(q:RelV y u):x=y:=qV (r.abs.symm.trans q.abs)
theorem Vals.inj:∀{xs ys:List V}{us:List Value},Vals xs us->Vals ys us->xs=ys
 |_,_,_,.nil,.nil=>rfl
 |_,_,_,.cons r t,.cons r' t'=>by rw[r.inj r',Vals.inj t t']
section
variable{X:Cx}{pins:List (Addr×Obj)}{σ:St}{H:Hp}{s:Shared}{a:Addr}{xs ys:List V}
def fS.of{K:PySem.W.Frag}(h:H a=some (.lst xs)):fS K H a xs:=.inl (.inl h)
def ee.of{K:PySem.W.Frag}(h:H a=some (.tup xs)):ee K H a xs:=.inl (.inl h)
def Inv.list(I:Inv X pins σ H s)(h:fS X.K H a xs):∃its:List Value,Vals xs its/\PlainL s.heap a its.toArray/\xs.length<=sizeLine:=by
 rcases h with h|⟨o,its,n,hk,hc,hd,hs,hz,r⟩
 .obtain⟨z,its,n,r,e⟩:=h.ok I.hok;exact⟨its,r,⟨_,n,e,rfl,rfl,rfl⟩,z⟩
 .refine⟨its.toList,r,⟨o,n,I.gK a o hk,hc,hd,by simpa using hs⟩,?_⟩;have e:=r.length;simp only[abg]at e;omega
def Inv.tuple(I:Inv X pins σ H s)(h:ee X.K H a xs):∃its:List Value,Vals xs its/\IsTup s.heap a its.toArray/\xs.length<=sizeLine:=by
 rcases h with h|⟨o,its,n,hk,hc,hs,hz,r⟩
 .obtain⟨z,its,r,p⟩:=h.ok I.hok;exact⟨its,r,p,z⟩
 .refine⟨its.toList,r,⟨o,I.gK a o hk,hc,n,by simpa using hs⟩,?_⟩;have e:=r.length;simp only[abg]at e;omega
def Inv.Ds(I:Inv X pins σ H s)(h:fS X.K H a xs)(h':fS X.K H a ys):xs=ys:=by
 obtain⟨its,r,⟨o,n,e,_,_,d⟩,_⟩:=I.list h;obtain⟨its',r',⟨o',n',e',_,_,d'⟩,_⟩:=I.list h';rw[e]at e';cases e';rw[d]at d';injection d' with d1 _
 have:its=its':=by simpa using aab Array.toList d1
 subst this;exact r.inj r'
def Inv.m5(I:Inv X pins σ H s)(h:ee X.K H a xs)(h':ee X.K H a ys):xs=ys:=by
 obtain⟨its,r,⟨o,e,_,n,d⟩,_⟩:=I.tuple h;obtain⟨its',r',⟨o',e',_,n',d'⟩,_⟩:=I.tuple h';rw[e]at e';cases e';rw[d]at d';injection d' with d1 _
 have:its=its':=by simpa using aab Array.toList d1
 subst this;exact r.inj r'
end
abbrev Cx.kO(X:Cx)(E:Value->Shared->Prop):Cx:={ X with xe:=E }
abbrev Cx.sY(X:Cx):Cx:=X.kO λ_ _=>False
theorem Cx.Ok.kO{X:Cx}(ok:X.Ok)(E:Value->Shared->Prop):(X.kO E).Ok:=
 ⟨ok.mod,ok.kind,ok.glob,ok.blt,ok.above,ok.inj,ok.has,ok.yj,ok.hd,ok.frames,ok.stk,ok.Gb,ok.bs,ok.sW,ok.rG,ok.rJ,ok.jr,ok.u7⟩
def Cx.Ok.jm{X:Cx}{E:Value->Shared->Prop}(ok:(X.kO E).Ok):X.Ok:=
 ⟨ok.mod,ok.kind,ok.glob,ok.blt,ok.above,ok.inj,ok.has,ok.yj,ok.hd,ok.frames,ok.stk,ok.Gb,ok.bs,ok.sW,ok.rG,ok.rJ,ok.jr,ok.u7⟩
section
variable{X:Cx}{pins:List (Addr×Obj)}{σ:St}{H:Hp}{s:Shared}{E:Value->Shared->Prop}
theorem Inv.kO(I:Inv X pins σ H s)(E:Value->Shared->Prop):Inv (X.kO E) pins σ H s:=⟨I.ok.kO E,I.os,I.bare,I.base,I.loc,I.cell,I.free,I.jf,I.pin,I.hok,I.len⟩
theorem Inv.jm(I:Inv (X.kO E) pins σ H s):Inv X pins σ H s:=⟨I.ok.jm,I.os,I.bare,I.base,I.loc,I.cell,I.free,I.jf,I.pin,I.hok,I.len⟩
theorem SP.jm{D:Ends}{f:Flow}{s':Shared}(h:SP (X.kO E) pins D f s'):SP X pins D f s':=by
 cases f with
 |next=>obtain⟨σ',H',I,q⟩:=h;exact⟨σ',H',I.jm,q⟩
 |brk=>obtain⟨σ',H',I,q⟩:=h;exact⟨σ',H',I.jm,q⟩
 |cont=>obtain⟨σ',H',I,q⟩:=h;exact⟨σ',H',I.jm,q⟩
 |ret u=>obtain⟨v,σ',H',I,r,q⟩:=h;exact⟨v,σ',H',I.jm,r,q⟩
theorem iT.sY{st:List Stmt}{t:TS}(h:iT X.sY st t):iT X st t:=λpins s σ H D I hw=>
 aa1 (h pins s σ H D (I.kO _) hw) (λ_ _ q=>q.jm) λ_ _ z=>False.elim z
end
section
variable{X:Cx}{st:Stmt}{rest:List Stmt}{t u:TS}{e:Expr}{te:TE}{pos:Pos}
noncomputable def Qc:TS:=λD σ H=>D.nx σ H
noncomputable def VN(t u:TS):TS:=λD σ H=>t { D with nx:=u D } σ H
def Hx:iT X [] Qc:=λ_ _ σ H _ I h=>acJ ⟨σ,H,I,h⟩
def Dt(h1:PS X st t)(h2:iT X rest u):iT X (st :: rest) (VN t u):=by
 intro pins s σ H D I h;refine wpAny_execs_cons (bF (h1 pins s σ H { D with nx:=u D } I h) λf s1 q=>?_);cases f with
 |next=>
  obtain⟨σ',H',I',q⟩:=q;exact h2 pins s1 σ' H' D I' q
 |ret v=>exact q
 |brk=>exact q
 |cont=>exact q
noncomputable def Qd:TS:=λD σ H=>D.ct σ H
def xR:PS X (.Continue pos) Qd:=λ_ _ σ H _ I h=>wpAny_Continue ⟨σ,H,I,h⟩
def Inv.quiet{pins:List (Addr×Obj)}{σ:St}{H:Hp}{s:Shared}(I:Inv X pins σ H s):interactive X.env=false:=by simp[interactive,I.ok.kind]
noncomputable def Qe(te:TE):TS:=λD σ H=>te σ H λ_ H1=>D.nx σ H1
def Hy(he:PE X e te)(hs:swapsWith e none pos.line X.env=pure false:=by rfl):PS X (.Expr e pos) (Qe te):=by
 intro pins s σ H D I h;exact wpAny_Expr_any (bF (he pins s σ H _ I h) λv s1 ⟨x,H1,I1,r1,q1⟩=>⟨σ,H1,I1,q1⟩) I.quiet hs
noncomputable def VO(te:TE):TS:=λD σ H=>te σ H D.rt
def Kp(he:PE X e te):PS X (.Return (some e) pos) (VO te):=by
 intro pins s σ H D I h;exact wpAny_Return_some (bF (he pins s σ H _ I h) λv s1 ⟨x,H1,I1,r1,q1⟩=>⟨x,σ,H1,I1,r1,q1⟩)
noncomputable def VP(c:TT)(t u:TS):TS:=λD σ H=>c σ H λb H1=>if b=true then t D σ H1 else u D σ H1
def Qf{c:Expr}{a b:List Stmt}{tc:TT}(hc:PT X c tc)(ha:iT X a t)(hb:iT X b u):PS X (.If c a b pos) (VP tc t u):=by
 intro pins s σ H D I h;refine wpAny_If (bF (hc pins s σ H _ I h) λd s1 ⟨H1,I1,q1⟩=>?_);cases d with
 |true=>exact ha pins s1 σ H1 D I1 q1
 |false=>exact hb pins s1 σ H1 D I1 q1
noncomputable def Kq:TS:=λ_ _ _=>False
def Du:PS X st Kq:=λ_ _ _ _ _ _ h=>h.elim
end
abbrev TG:=V->St->Hp->(St->Hp->Prop)->Prop
abbrev sZ:=List V->St->Hp->(St->Hp->Prop)->Prop
noncomputable def PG(X:Cx)(target:Expr)(t:TG):Prop:=
 ∀(pins:List (Addr×Obj)) (s:Shared) (σ:St) (H:Hp) (v:V) (u:Value) (Q:St->Hp->Prop),Inv X pins σ H s->RelV v u->t v σ H Q->
  wpAny (model X.prog X.w) X.A (assign target X.env u) (λ_ s'=>∃σ' H',Inv X pins σ' H' s'/\Q σ' H') X.xe s
noncomputable def oR(X:Cx)(ts:List Expr)(t:sZ):Prop:=
 ∀(pins:List (Addr×Obj)) (s:Shared) (σ:St) (H:Hp) (vs:List V) (us:List Value) (Q:St->Hp->Prop),Inv X pins σ H s->Vals vs us->t vs σ H Q->
  wpAny (model X.prog X.w) X.A (assignInOrder ((assignEach ts X.env).map (·.2)) us) (λ_ s'=>∃σ' H',Inv X pins σ' H' s'/\Q σ' H') X.xe s
section
variable{X:Cx}{pos:Pos}
noncomputable def Gg(i:Nat):TG:=λv σ H Q=>Q (σ.set i (some v)) H
def yo{i:Nat}{x:Str}(hN:X.N.Nodup)(hi:X.N[i]?=some x)(hx:Loc X.env.scope x)(hf:X.fn x=true\/X.env.scope.names.lookup x=some .local:=by first|exact .inl rfl|exact .inr rfl|assumption):PG X (.Name x pos) (Gg i):=by
 intro pins s σ H v u Q I r h;exact wpAny_assign_Name (ve I hN hi hx r (λs' I'=>⟨_,H,I',h⟩) hf)
noncomputable def VQ:sZ:=λvs σ H Q=>vs=[]/\Q σ H
noncomputable def Qg(t:TG)(u:sZ):sZ:=λvs σ H Q=>∃v r,vs=v :: r/\t v σ H λσ' H'=>u r σ' H' Q
def Hz:oR X [] VQ:=by
 intro pins s σ H vs us Q I r h;obtain⟨e,h⟩:=h;subst e;cases r;exact assignInOrder_nil ⟨σ,H,I,h⟩
def Dv{e:Expr}{es:List Expr}{t:TG}{u:sZ}(h1:PG X e t)(h2:oR X es u)
  (hs:(assignEach (e :: es) X.env).map (·.2)=assign e X.env :: (assignEach es X.env).map (·.2):=by rfl):oR X (e :: es) (Qg t u):=by
 intro pins s σ H vs us Q I r h;obtain⟨v,vr,e1,h⟩:=h;subst e1;cases r with
 |cons r rr=>
  rw[hs];refine assignInOrder_cons (bF (h1 pins s σ H _ _ _ I r h) λ_ s1 ⟨σ1,H1,I1,q1⟩=>?_);exact h2 pins s1 σ1 H1 _ _ Q I1 rr q1
noncomputable def VR(K:PySem.W.Frag)(n:Nat)(t:sZ):TG:=λv σ H Q=>∃a xs,v=.ref a/\ee K H a xs/\xs.length=n/\t xs σ H Q
def Kr{es:List Expr}{k:Nat}{t:sZ}{n:Nat}(hc:X.calm=true)(h:oR X es t)
  (hn:(assignEach es X.env).length=n:=by rfl) (hst:(assignEach es X.env).findIdx? (·.1)=none:=by rfl):PG X (.Tuple es k pos) (VR X.K n t):=by
 intro pins s σ H v u Q I r hw;obtain⟨a,xs,e1,hq,hl,hw⟩:=hw;subst e1;cases r;obtain⟨its,rv,ht,hz⟩:=I.tuple hq;refine assign_Tuple_tuple (I.ok.hd hc) ht (by simp[hn,<-hl,rv.length]) hst λh' hx=>?_;have I1:Inv X pins σ H { s with heap:=h' }:=I.kept (t':=s.toks) λb o e=>hx b o (aaq (Xl e)) e;exact h pins _ σ H xs _ Q I1 (by simpa using rv) hw
noncomputable def VS(te:TE)(g:TG):TS:=λD σ H=>te σ H λx H1=>g x σ H1 D.nx
def Bb{i:Nat}{x:Str}{e:Expr}{te:TE}{pos':Pos}(hN:X.N.Nodup)(hi:X.N[i]?=some x)(hx:Loc X.env.scope x)(he:PE X e te)(hs:swapsWith e (some (.Name x pos')) pos.line X.env=pure false:=by rfl)(hf:X.fn x=true\/X.env.scope.names.lookup x=some .local:=by first|exact .inl rfl|exact .inr rfl|assumption) :
  PS X (.Assign [.Name x pos'] e pos) (VS te (Gg i)):=by
 intro pins s σ H D I h;refine wpAny_Assign_Name (bF (he pins s σ H _ I h) λv s1 ⟨y,H1,I1,r1,q1⟩=>?_) hs;exact ve I1 hN hi hx r1 (λs2 I2=>⟨_,H1,I2,q1⟩) hf
end
section
variable{X:Cx}{pos:Pos}
noncomputable def Ks(c:TT)(tb:TS):TS:=λD σ H=>∃W:Nat->St->Hp->Prop,(∃m,W m σ H)/\∀m σ H,W m σ H->
 c σ H λb H1=>if b=true then ∃N:St->Hp->Prop,(∀σ' H',N σ' H'->∃m',m'<m/\W m' σ' H')/\tb { D with nx:=N,ct:=N,bk:=D.nx } σ H1 else D.nx σ H1
def Dw{c:Expr}{body:List Stmt}{tc:TT}{tb:TS}(hp:PassesOwn (model X.prog X.w) X.A X.env X.xe)(hc:PT X c tc)(hb:iT X body tb):PS X (.While c body [] pos) (Ks tc tb):=by
 intro pins s σ H D I h;obtain⟨W,⟨m0,w0⟩,turn⟩:=h;refine wpAny_While (codeAny_whileLoop (λn s'=>∃σ' H',Inv X pins σ' H' s'/\W n σ' H') ?_ m0 ⟨σ,H,I,w0⟩);rintro n s1 ⟨σ1,H1,I1,w1⟩;refine aa4 hp (bF (hc pins s1 σ1 H1 _ I1 (turn n σ1 H1 w1)) λb s2 ⟨H2,I2,q2⟩=>?_);cases b with
 |true=>
  obtain⟨N,hN,q2⟩:=q2;rw[JP rfl];refine aa4 hp (bF (hb pins s2 σ1 H2 _ I2 q2) λf s3 q3=>?_);cases f with
  |next=>
   obtain⟨σ3,H3,I3,n3⟩:=q3;obtain⟨m',hm,w3⟩:=hN σ3 H3 n3;exact⟨m',hm,σ3,H3,I3,w3⟩
  |cont=>
   obtain⟨σ3,H3,I3,n3⟩:=q3;obtain⟨m',hm,w3⟩:=hN σ3 H3 n3;exact⟨m',hm,σ3,H3,I3,w3⟩
  |brk=>exact q3
  |ret v=>exact q3
 |false=>
  rw[Yu aaM];exact acJ ⟨σ1,H2,I2,q2⟩
end
structure It where
 go:Nat->Hp->Prop
 Gh:Nat->Hp->V->Hp->Prop
 stop:Nat->Hp->Prop
noncomputable def iI(X:Cx)(pins:List (Addr×Obj))(H:Hp)(b:Addr):Prop:=
 H b=none/\b≠X.env.locals/\b∉X.fs/\(b∈X.ex\/X.s₀.heap.objs.size<=b)/\(∀x c,X.env.cells.lookup x=some c->c≠b)/\∀p∈X.pn++pins,p.1≠b
def Inv.Dy{X:Cx}{pins:List (Addr×Obj)}{σ:St}{H H':Hp}{s:Shared}{b:Addr}(I:Inv X pins σ H s)(hb:s.heap.objs.size<=b)(hn:H' b=none):iI X pins H' b:=by
 refine⟨hn,ac1 (P6 I.lt hb),I.VH hb,.inr (aaa I.sz hb),λx c e z=>?_,λp hp z=>?_⟩
 .obtain⟨v,q⟩:=I.cell x c e;exact absurd (P6 q.lt (by rw[z];exact hb)) (aaB _)
 .exact absurd (P6 (Xl (I.pin p hp).1) (by rw[z];exact hb)) (aaB _)
structure Turn(P:Program)(w:World)(K:PySem.W.Frag)(tg:Expr)(J:It)(fp:List Addr)(it:Addr)(tn:Nat->Heap->Prop):Prop where
 mem:it∈fp
 obj:∀i h,tn i h->∀b∈fp,∃o,h.get? b=some o/\∀v,o.data≠.cell v
 keep:∀i h h',tn i h->(∀b∈fp,∀o,h.get? b=some o->h'.get? b=some o)->tn i h'
 item:∀(X:Cx),X.prog=P->X.w=w->X.K=K->X.calm=true->∀(i:Nat) (pins:List (Addr×Obj)) (s:Shared) (σ:St) (H:Hp) (E:Value->Shared->Prop),Inv X pins σ H s->(∀b∈fp,iI X pins H b)->tn i s.heap->J.go i H->
  wpAny (model P w) X.A (pyNext (.ref it)) (λr s1=>∃u,r=some u/\
   wpAny (model P w) X.A (letOwnedTupleGo tg (.ref it) u) (λ_ s2=>∃x H',Inv X pins σ H' s2/\RelV x u/\J.Gh i H x H'/\tn (i+1) s2.heap/\∀b∈fp,H' b=none) E s1) E s
 done:∀(X:Cx),X.prog=P->X.w=w->X.K=K->X.calm=true->∀(i:Nat) (pins:List (Addr×Obj)) (s:Shared) (σ:St) (H:Hp) (E:Value->Shared->Prop),Inv X pins σ H s->(∀b∈fp,iI X pins H b)->tn i s.heap->J.stop i H->
  wpAny (model P w) X.A (pyNext (.ref it)) (λr s1=>r=none/\Inv X pins σ H s1) E s
 self:∀(A:Around) (i:Nat) (s:Shared) (Q:Value->Shared->Prop) (E:Value->Shared->Prop),tn i s.heap->Q (.ref it) s->wpAny (model P w) A (pyIter (.ref it)) Q E s
abbrev TI:=St->Hp->(It->Hp->Prop)->Prop
noncomputable def TM(X:Cx)(pins:List (Addr×Obj))(σ:St)(tg:Expr)(R:It->Hp->Prop)(itv:Value)(s2:Shared):Prop:=
 ∃(it:Addr) (fp:List Addr) (tn:Nat->Heap->Prop) (J:It) (H':Hp),itv=.ref it/\Inv X pins σ H' s2/\Turn X.prog X.w X.K tg J fp it tn/\tn 0 s2.heap/\(∀b∈fp,iI X pins H' b)/\R J H'
noncomputable def PI(X:Cx)(tg iter:Expr)(wi:TI):Prop:=
 ∀(pins:List (Addr×Obj)) (s:Shared) (σ:St) (H:Hp) (R:It->Hp->Prop),Inv X pins σ H s->wi σ H R->
  wpAny (model X.prog X.w) X.A (eval iter X.env) (λv s1=>wpAny (model X.prog X.w) X.A (pyIter v) (TM X pins σ tg R) X.xe s1) X.xe s
def zD{M:Model}{A:Around}{E:Value->Shared->Prop}{s:Shared}{tg:Expr}{it:Addr}{u:Value}{o:Obj}{n:String}{vs:Array Value}{Q:Unit->Shared->Prop}(ho:s.heap.get? it=some o)(hc:o.cls=.type n)(hd:o.data=.fields vs)
    (hn:["enumerate","zip","dict_itemiterator","dict_reverseitemiterator","odict_iterator","itertools.zip_longest","itertools.pairwise"].contains n=false) (hQ:Q () s):wpAny M A (letOwnedTupleGo tg (.ref it) u) Q E s:=by
  unfold letOwnedTupleGo;cases tg<;>first
    |exact uq hQ
    | (cases u<;>first
        |exact uq hQ
        | (refine gF (wpAny_load ho ?_)
           rw[hc,hd];show wpAny M A (if (["enumerate","zip","dict_itemiterator","dict_reverseitemiterator","odict_iterator","itertools.zip_longest","itertools.pairwise"].contains n&&vs[0]?==some (rawInt _))=true then _ else _) Q E s;rw[Yu (by intro h;rw[hn,acN]at h;cases h)];exact uq hQ))
noncomputable def TN(K:PySem.W.Frag)(a:Addr):It:=
 ⟨λi H=>∃xs x,fS K H a xs/\xs[i]?=some x,λi H x H'=>H'=H/\∀xs,fS K H a xs->xs[i]?=some x,λi H=>∃xs,fS K H a xs/\xs.length<=i⟩
noncomputable def TQ(K:PySem.W.Frag)(a:Addr):It:=
 ⟨λi H=>∃xs x,ee K H a xs/\xs[i]?=some x,λi H x H'=>H'=H/\∀xs,ee K H a xs->xs[i]?=some x,λi H=>∃xs,ee K H a xs/\xs.length<=i⟩
noncomputable def Bc(lo:Int)(n:Nat):It:=⟨λi _=>i<n,λi H x H'=>H'=H/\x=.int (lo+i),λi _=>n<=i⟩
def Bd{P:Program}{w:World}{K:PySem.W.Frag}{tg:Expr}(a it:Addr):Turn P w K tg (TN K a) [it] it (λi h=>h.IsListIter it a i) where
 mem:=by simp
 obj:=λi h st b hb=>by
  have e:b=it:=by simpa using hb
  subst e;obtain⟨o,e,c,d⟩:=st;exact⟨o,e,λv z=>by rw[d]at z;cases z⟩
 keep:=λi h h' st k=>st.at λo e=>k it (by simp) o e
 item:=by
  intro X hP hw hK hc i pins s σ H E I hf st hg;subst hP hw hK;obtain⟨xs,x,hq,hx⟩:=hg;obtain⟨its,rv,p,hz⟩:=I.list hq;obtain⟨u,hu,ru⟩:=rv.get hx;obtain⟨f0,f1,f2,f3,f4,f5⟩:=hf it (by simp);refine wpAny_pyNext_list_item st p.isList (x:=u) (by simpa using hu) λh' st' sb=>?_;have I1:Inv X pins σ H { s with heap:=h' }:=I.turned (t':=s.toks) (λb o hb e=>(sb.2 b hb).trans e) f0 f1 f3 f4 f5;obtain⟨o,e,c,d⟩:=id st';exact⟨u,rfl,zD (s:={ s with heap:=h' }) e c d (by decide) ⟨x,H,I1,ru,⟨rfl,λys hy=>by rw[I.Ds hy hq];exact hx⟩,st',λb hb=>(hf b hb).1⟩⟩
 done:=by
  intro X hP hw hK hc i pins s σ H E I hf st hg;subst hP hw hK;obtain⟨xs,hq,hx⟩:=hg;obtain⟨its,rv,p,hz⟩:=I.list hq;obtain⟨f0,f1,f2,f3,f4,f5⟩:=hf it (by simp);have hl:=rv.length;exact wpAny_pyNext_list_end (I.ok.hd hc) st p.isList (by simp;omega) λh' eb=>⟨rfl,I.turned (t':=s.toks) (λb o hb e=>eb b o hb e) f0 f1 f3 f4 f5⟩
 self:=λ_ _ _ _ _ st h=>wpAny_pyIter_listiter st h
def zE{P:Program}{w:World}{K:PySem.W.Frag}{tg:Expr}(a it:Addr):Turn P w K tg (TQ K a) [it] it (λi h=>h.IsTupleIter it a i) where
 mem:=by simp
 obj:=λi h st b hb=>by
  have e:b=it:=by simpa using hb
  subst e;obtain⟨o,e,c,d⟩:=st;exact⟨o,e,λv z=>by rw[d]at z;cases z⟩
 keep:=λi h h' st k=>st.at λo e=>k it (by simp) o e
 item:=by
  intro X hP hw hK hc i pins s σ H E I hf st hg;subst hP hw hK;obtain⟨xs,x,hq,hx⟩:=hg;obtain⟨its,rv,p,hz⟩:=I.tuple hq;obtain⟨u,hu,ru⟩:=rv.get hx;obtain⟨f0,f1,f2,f3,f4,f5⟩:=hf it (by simp);refine wpAny_pyNext_tuple_item st (show s.heap.IsTuple a its.toArray from p) (x:=u) (by simpa using hu) λh' st' sb=>?_;have I1:Inv X pins σ H { s with heap:=h' }:=I.turned (t':=s.toks) (λb o hb e=>(sb.2 b hb).trans e) f0 f1 f3 f4 f5;obtain⟨o,e,c,d⟩:=id st';exact⟨u,rfl,zD (s:={ s with heap:=h' }) e c d (by decide) ⟨x,H,I1,ru,⟨rfl,λys hy=>by rw[I.m5 hy hq];exact hx⟩,st',λb hb=>(hf b hb).1⟩⟩
 done:=by
  intro X hP hw hK hc i pins s σ H E I hf st hg;subst hP hw hK;obtain⟨xs,hq,hx⟩:=hg;obtain⟨its,rv,p,hz⟩:=I.tuple hq;obtain⟨f0,f1,f2,f3,f4,f5⟩:=hf it (by simp);have hl:=rv.length;exact wpAny_pyNext_tuple_end (I.ok.hd hc) st (show s.heap.IsTuple a its.toArray from p) (by simp;omega) λh' eb=>⟨rfl,I.turned (t':=s.toks) (λb o hb e=>eb b o hb e) f0 f1 f3 f4 f5⟩
 self:=λ_ _ _ _ _ st h=>wpAny_pyIter_tupleiter st h
def zF{P:Program}{w:World}{K:PySem.W.Frag}{tg:Expr}(it:Addr)(lo:Int)(n:Nat):Turn P w K tg (Bc lo n) [it] it (λi h=>IsRangeIter h it (lo+(i:Nat)*1) ((n:Int) - (i:Nat)) 1) where
 mem:=by simp
 obj:=λi h st b hb=>by
  have e:b=it:=by simpa using hb
  subst e;exact⟨_,st,λv z=>by
   have z':Data.fields _=Data.cell v:=z;cases z'⟩
 keep:=λi h h' st k=>k it (by simp) _ st
 item:=by
  intro X hP hw hK hc i pins s σ H E I hf st hg;subst hP hw hK;obtain⟨f0,f1,f2,f3,f4,f5⟩:=hf it (by simp);have W:=Walks.range (prog:=X.prog) (w:=X.w) (I.ok.hd hc) it lo 1 n;refine W.item i s _ _ hg st λv h' tk hv st' kk=>?_;obtain⟨t,rfl⟩:=hv;have I1:Inv X pins σ H { s with heap:=h',toks:=tk }:=I.turned (λb o hb e=>kk b o (by simpa using hb) e) f0 f1 f3 f4 f5;refine⟨_,rfl,zD (s:={ s with heap:=h',toks:=tk }) (n:="range_iterator") st' rfl rfl (by decide) ⟨.int (lo+i),H,I1,⟨t,?_⟩,⟨rfl,rfl⟩,st',λb hb=>(hf b hb).1⟩⟩;rw[Int.mul_one]
 done:=by
  intro X hP hw hK hc i pins s σ H E I hf st hg;subst hP hw hK;obtain⟨f0,f1,f2,f3,f4,f5⟩:=hf it (by simp);exact wpAny_pyNext_range_end (I.ok.hd hc) st (by have:n<=i:=hg;omega) λh' eb=>⟨rfl,I.turned (t':=s.toks) (λb o hb e=>eb b o hb e) f0 f1 f3 f4 f5⟩
 self:=λ_ _ _ _ _ st h=>wpAny_pyIter_rangeiter st h
section
variable{X:Cx}{tg:Expr}
def vf{pins:List (Addr×Obj)}{σ:St}{H:Hp}{s:Shared}{R:It->Hp->Prop}{E:Value->Shared->Prop}{lo hi:Int}{t u v:Tok}{tk:Nat}(I:Inv X pins σ H s)(h1:-(2 ^ 62)<=lo)(h2:lo<2 ^ 62)(h3:-(2 ^ 62)<=hi)(h4:hi<2 ^ 62)
  (q:R (Bc lo (hi - lo).toNat) H):wpAny (model X.prog X.w) X.A (pyIter (.ref s.heap.objs.size)) (TM X pins σ tg R) E { s with heap:=s.heap.push { cls:=.type "range",data:=.fields #[.int lo t,.int hi u,.int 1 v]},toks:=tk }:=by
 refine wpAny_pyIter_range (IsRange.new ..) (small_one h1 h2 h3 h4) ?_;have I1:Inv X pins σ H { s with heap:=s.heap.push { cls:=.type "range",data:=.fields #[.int lo t,.int hi u,.int 1 v]},toks:=tk }:=I.kept λb o e=>FJ _ e;refine⟨(s.heap.push { cls:=.type "range",data:=.fields #[.int lo t,.int hi u,.int 1 v]}).objs.size,[(s.heap.push { cls:=.type "range",data:=.fields #[.int lo t,.int hi u,.int 1 v]}).objs.size],_,_,H,rfl,
  I1.kept (t':=tk) λb o e=>FJ _ e,zF _ lo (hi - lo).toNat,?_,λb hb=>?_,q⟩
 .have e1:lo+((0:Nat):Int)*1=lo:=by simp
  have e2:(((hi - lo).toNat:Nat):Int) - ((0:Nat):Int)=Builtin.Range.rangeSize lo hi 1:=by rw[rangeSize_one];split<;>omega
  show IsRangeIter _ _ (lo+((0:Nat):Int)*1) ((((hi - lo).toNat:Nat):Int) - ((0:Nat):Int)) 1;rw[e1,e2];exact aae _ rfl
 .have e:b=(s.heap.push { cls:=.type "range",data:=.fields #[.int lo t,.int hi u,.int 1 v]}).objs.size:=by simpa using hb
  subst e;exact I1.Dy (WE _) (I1.hok.fresh (WE _))
noncomputable def Qh(ta:TA):TI:=λσ H R=>ta σ H λvs H1=>∃j:Int,vs=[.int j]/\-(2 ^ 62)<=j/\j<2 ^ 62/\R (Bc 0 j.toNat) H1
noncomputable def Qi(ta:TA):TI:=λσ H R=>ta σ H λvs H1=>∃i j:Int,vs=[.int i,.int j]/\(-(2 ^ 62)<=i/\i<2 ^ 62/\-(2 ^ 62)<=j/\j<2 ^ 62)/\R (Bc i (j - i).toNat) H1
def Be {a:Expr}{ta:TA}{p pos:Pos}(hg:Gl X "range") (hm:X.mg "range" = none) (ha:PA X [a] ta) (hs:starEach [a] X.env=[(false,eval a X.env)]:=by rfl):PI X tg (.Call (.Name "range" p) [a] [] pos) (Qh ta):=by
 intro pins s σ H R I h;refine Call_ (jS I hg hm boot_range (aaR (bF (ha pos pins s σ H _ I h) λus s1 ⟨vs,H1,I1,r1,q1⟩=>?_) hs rfl));obtain⟨j,e,q1,q2,q⟩:=q1;subst e;cases r1 with
 |cons r rr=>
  cases rr;obtain⟨t,rfl⟩:=r;exact call_range_1 (vf I1 (by omega) (by omega) q1 q2 (by simpa using q))
def Bf {a b:Expr}{ta:TA}{p pos:Pos}(hg:Gl X "range") (hm:X.mg "range" = none) (ha:PA X [a,b] ta) (hs:starEach [a,b] X.env=[(false,eval a X.env),(false,eval b X.env)]:=by rfl) (hs2:starEach [b] X.env=[(false,eval b X.env)]:=by rfl) :
  PI X tg (.Call (.Name "range" p) [a,b] [] pos) (Qi ta):=by
 intro pins s σ H R I h;refine Call_ (jS I hg hm boot_range (aaR (bF (ha pos pins s σ H _ I h) λus s1 ⟨vs,H1,I1,r1,q1⟩=>?_) (by rw[hs,hs2]) (by rw[hs2];rfl)));obtain⟨i,j,e,⟨q1,q2,q3,q4⟩,q⟩:=q1;subst e;cases r1 with
 |cons r rr=>
  cases rr with
  |cons r' rr=>
   cases rr;obtain⟨t,rfl⟩:=r;obtain⟨t',rfl⟩:=r';exact call_range_2 (vf I1 q1 q2 q3 q4 q)
noncomputable def VT(wi:TI)(g:TG)(tb:TS):TS:=λD σ H=>wi σ H λJ H1=>∃W:Nat->Nat->St->Hp->Prop,(∃m,W 0 m σ H1)/\∀i m σ H,W i m σ H->
 (J.stop i H/\D.nx σ H)\/(J.go i H/\∃N:St->Hp->Prop,(∀σ' H',N σ' H'->∃m',m'<m/\W (i+1) m' σ' H')/\∀x H',J.Gh i H x H'->g x σ H' λσ2 H2=>tb { D with nx:=N,ct:=N,bk:=D.nx } σ2 H2)
noncomputable def m6(fp:List Addr)(h:Heap):List (Addr×Obj):=fp.filterMap λb=>(h.get? b).map λo=>(b,o)
def jB{fp:List Addr}{h:Heap}{b:Addr}{o:Obj}(hb:b∈fp)(e:h.get? b=some o):(b,o)∈m6 fp h:=List.mem_filterMap.mpr ⟨b,hb,by rw[e];rfl⟩
def Bg{fp:List Addr}{h:Heap}{p:Addr×Obj}(hp:p∈m6 fp h):p.1∈fp/\h.get? p.1=some p.2:=by
 obtain⟨b,hb,e⟩:=List.mem_filterMap.mp hp;cases q:h.get? b with
 |none=>rw[q]at e;cases e
 |some o=>
  rw[q]at e;have e':(b,o)=p:=qV e;subst e';exact⟨hb,q⟩
def Inv.pinned{pins:List (Addr×Obj)}{σ:St}{H:Hp}{s:Shared}{fp:List Addr}(I:Inv X pins σ H s)(hf:∀b∈fp,iI X pins H b)(ho:∀b∈fp,∃o,s.heap.get? b=some o/\∀v,o.data≠.cell v):Inv X (pins++m6 fp s.heap) σ H s:=
 I.yl λp hp=>(List.mem_append.mp hp).elim (λz=>I.pin p (aap _ z)) λz=>by
  obtain⟨hb,e⟩:=Bg z;obtain⟨f0,f1,f2,_⟩:=hf p.1 hb;obtain⟨o,e',d⟩:=ho p.1 hb;rw[e]at e';cases e';exact⟨e,f0,f1,f2,d⟩
def Inv.lZ{pins pl:List (Addr×Obj)}{σ:St}{H:Hp}{s:Shared}(I:Inv X (pins++pl) σ H s):Inv X pins σ H s:=I.yl λp hp=>I.pin p (aap _ (aaO _ hp))
def Ku{iter:Expr}{body:List Stmt}{wi:TI}{g:TG}{tb:TS}{pos:Pos}(hp:PassesOwn (model X.prog X.w) X.A X.env X.xe)(hc:X.calm=true)(hi:PI X tg iter wi)(hg:PG X tg g)(hb:iT X body tb)
  (hs:∀x,foldedSetIterable iter X.env x=pure x:=by intro _;rfl):PS X (.For tg iter body [] pos) (VT wi g tb):=by
 intro pins s σ H D I h;refine wpAny_For (bF (hi pins s σ H _ I h) λv s1 h1=>bF h1 λitv s2 h2=>?_) hs;obtain⟨it,fp,tn,J,H2,e,I2,T,st2,f2,W,⟨m0,w0⟩,turn⟩:=h2;subst e;have mh:∀{H':Hp},(∀b∈fp,H' b=none)->∀b∈fp,iI X pins H' b:=λhn b hb=>⟨hn b hb,(f2 b hb).2⟩
 refine codeAny_forLoop_any (λn s'=>∃i σ' H',Inv X pins σ' H' s'/\tn i s'.heap/\(∀b∈fp,H' b=none)/\W i n σ' H') ?_ m0 ⟨0,σ,H2,I2,st2,λb hb=>(f2 b hb).1,w0⟩;rintro n s3 ⟨i,σ3,H3,I3,st3,cL,w3⟩;rcases turn i n σ3 H3 w3 with ⟨stop,qn⟩|⟨go,N,hN,step⟩
 .refine aa4 hp (bF (T.done X rfl rfl rfl hc i pins s3 σ3 H3 X.xe I3 (mh cL) st3 stop) λr s4 ⟨hr,I4⟩=>?_);subst hr;exact acJ ⟨σ3,H3,I4,qn⟩
 .refine aa4 hp (bF (T.item X rfl rfl rfl hc i pins s3 σ3 H3 X.xe I3 (mh cL) st3 go) λr s4 ⟨u,hr,h4⟩=>?_);subst hr;refine aa4 hp (bF h4 λ_ s5 ⟨x,H5,I5,r5,y5,yp,tu⟩=>?_);have Xq:=I5.pinned (mh tu) (T.obj _ _ yp);refine aa4 hp (bF (hg _ s5 σ3 H5 x u _ Xq r5 (step x H5 y5)) λ_ s6 ⟨Xr,H6,I6,q6⟩=>?_);refine aa4 hp (bF (hb _ s6 Xr H6 _ I6 q6) λf s7 q7=>?_);have again:∀{m7:St} {H7:Hp},Inv X (pins++m6 fp s5.heap) m7 H7 s7->N m7 H7->∃m,m<n/\∃i σ' H',Inv X pins σ' H' s7/\tn i s7.heap/\(∀b∈fp,H' b=none)/\W i m σ' H':=λ{m7 H7} I7 n7=>by
   obtain⟨m',hm,w7⟩:=hN m7 H7 n7;refine⟨m',hm,i+1,m7,H7,I7.lZ,T.keep _ _ _ yp λb hb o e=>(I7.pin (b,o) (aap _ (aap _ (jB hb e)))).1,λb hb=>?_,w7⟩;obtain⟨o,e,d⟩:=T.obj _ _ yp b hb;exact(I7.pin (b,o) (aap _ (aap _ (jB hb e)))).2.1
  cases f with
  |next=>obtain⟨m7,H7,I7,n7⟩:=q7;exact again I7 n7
  |cont=>obtain⟨m7,H7,I7,n7⟩:=q7;exact again I7 n7
  |brk=>obtain⟨m7,H7,I7,q7⟩:=q7;exact⟨m7,H7,I7.lZ,q7⟩
  |ret v=>obtain⟨x7,m7,H7,I7,r7,q7⟩:=q7;exact⟨x7,m7,H7,I7.lZ,r7,q7⟩
end
abbrev R2:=V->V->Hp->VK->Prop
noncomputable def cV(X:Cx)(f:Value->Value->Sem Value)(r:R2):Prop:=
 ∀(pins:List (Addr×Obj)) (s:Shared) (σ:St) (H:Hp) (x y:V) (v u:Value) (Q:VK),Inv X pins σ H s->RelV x v->RelV y u->r x y H Q->
  wpAny (model X.prog X.w) X.A (f v u) (EP X pins σ Q) X.xe s
noncomputable def Kv(X:Cx)(f:Value->Sem Value)(r:V->Hp->VK->Prop):Prop:=
 ∀(pins:List (Addr×Obj)) (s:Shared) (σ:St) (H:Hp) (x:V) (v:Value) (Q:VK),Inv X pins σ H s->RelV x v->r x H Q->
  wpAny (model X.prog X.w) X.A (f v) (EP X pins σ Q) X.xe s
noncomputable def fG(X:Cx)(f:Value)(r:List V->Hp->VK->Prop):Prop:=
 ∀(pins:List (Addr×Obj)) (s:Shared) (σ:St) (H:Hp) (xs:List V) (us:List Value) (Q:VK),Inv X pins σ H s->Vals xs us->r xs H Q->
  wpAny (model X.prog X.w) X.A (call f us) (EP X pins σ Q) X.xe s
noncomputable def VU(X:Cx)(r:V->Hp->(Bool->Hp->Prop)->Prop):Prop:=
 ∀(pins:List (Addr×Obj)) (s:Shared) (σ:St) (H:Hp) (x:V) (v:Value) (Q:Bool->Hp->Prop),Inv X pins σ H s->RelV x v->r x H Q->
  wpAny (model X.prog X.w) X.A (truthy v) (TP X pins σ Q) X.xe s
noncomputable def Bh(r:R2)(ta tb:TE):TE:=λσ H Q=>ta σ H λx H1=>tb σ H1 λy H2=>r x y H2 Q
noncomputable def Xu(r:V->Hp->VK->Prop)(ta:TE):TE:=λσ H Q=>ta σ H λx H1=>r x H1 Q
noncomputable def rI(C:Int->Int->Prop)(g:Int->Int->V):R2:=λx y H Q=>∃i j,x=.int i/\y=.int j/\C i j/\Q (g i j) H
noncomputable def tD(g:Int->Int->V):R2:=λx y H Q=>∃i j,x=.int i/\y=.int j/\Q (g i j) H
noncomputable def rU(g:Int->V):V->Hp->VK->Prop:=λx H Q=>∃i,x=.int i/\Q (g i) H
section
variable{X:Cx}{a b:Expr}{ta tb:TE}{pos:Pos}
def zG(ha:PE X a ta)(hb:PE X b tb){pins:List (Addr×Obj)}{s:Shared}{σ:St}{H:Hp}{R:V->V->Hp->Prop}(I:Inv X pins σ H s)
  (h:ta σ H λx H1=>tb σ H1 λy H2=>R x y H2) {Q:Value->Shared->Prop} {f:Value->Value->Sem Value}
  (hf:∀v u s2 x y H2,Inv X pins σ H2 s2->RelV x v->RelV y u->R x y H2->wpAny (model X.prog X.w) X.A (f v u) Q X.xe s2) :
  wpAny (model X.prog X.w) X.A (eval a X.env) (λv s₁=>wpAny (model X.prog X.w) X.A (eval b X.env) (λu s₂=>wpAny (model X.prog X.w) X.A (f v u) Q X.xe s₂) X.xe s₁) X.xe s:=by
 refine bF (ha pins s σ H _ I h) λv s1 ⟨x,H1,I1,r1,q1⟩=>?_;refine bF (hb pins s1 σ H1 _ I1 q1) λu s2 ⟨y,H2,I2,r2,q2⟩=>?_;exact hf v u s2 x y H2 I2 r1 r2 q2
def Qj{op:Operator}{r:R2}(ho:cV X (binaryOp op) r)(ha:PE X a ta)(hb:PE X b tb):PE X (.BinOp a op b pos) (Bh r ta tb):=by
 intro pins s σ H Q I h;exact wpAny_BinOp (zG ha hb I h λv u s2 x y H2 I2 rx ry q=>ho pins s2 σ H2 x y v u Q I2 rx ry q)
def Qk{op:UnaryOp}{r:V->Hp->VK->Prop}(ho:Kv X (unaryOp op) r)(ha:PE X a ta):PE X (.UnaryOp op a pos) (Xu r ta):=by
 intro pins s σ H Q I h;exact UnaryOp_ (bF (ha pins s σ H _ I h) λv s1 ⟨x,H1,I1,r1,q1⟩=>ho pins s1 σ H1 x v Q I1 r1 q1)
def Kw{f:Value->Value->Sem Value}{C:Int->Int->Prop}{g:Int->Int->Int}
  (rule:∀(i j:Int) (t u:Tok) (s:Shared) (Q:Value->Shared->Prop) (E:Value->Shared->Prop),C i j->Q (.int (g i j) s.toks) { s with toks:=s.toks+1 }->wpAny (model X.prog X.w) X.A (f (.int i t) (.int j u)) Q E s) :
  cV X f (rI C λi j=>.int (g i j)):=by
 intro pins s σ H x y v u Q I rx ry h;obtain⟨i,j,rfl,rfl,hc,q⟩:=h;obtain⟨t,rfl⟩:=rx;obtain⟨t',rfl⟩:=ry;exact rule i j t t' s _ _ hc ⟨.int (g i j),H,I.tok _,⟨_,rfl⟩,q⟩
def Ky{f:Value->Value->Sem Value}{g:Int->Int->Int}
  (rule:∀(i j:Int) (t u:Tok) (s:Shared) (Q:Value->Shared->Prop) (E:Value->Shared->Prop),Q (.int (g i j) s.toks) { s with toks:=s.toks+1 }->wpAny (model X.prog X.w) X.A (f (.int i t) (.int j u)) Q E s) :
  cV X f (tD λi j=>.int (g i j)):=by
 intro pins s σ H x y v u Q I rx ry h;obtain⟨i,j,rfl,rfl,q⟩:=h;obtain⟨t,rfl⟩:=rx;obtain⟨t',rfl⟩:=ry;exact rule i j t t' s _ _ ⟨.int (g i j),H,I.tok _,⟨_,rfl⟩,q⟩
def Dz{f:Value->Value->Sem Value}{g:Int->Int->Bool}
  (rule:∀(i j:Int) (t u:Tok) (s:Shared) (Q:Value->Shared->Prop) (E:Value->Shared->Prop),Q (.bool (g i j)) s->wpAny (model X.prog X.w) X.A (f (.int i t) (.int j u)) Q E s) :
  cV X f (tD λi j=>.bl (g i j)):=by
 intro pins s σ H x y v u Q I rx ry h;obtain⟨i,j,rfl,rfl,q⟩:=h;obtain⟨t,rfl⟩:=rx;obtain⟨t',rfl⟩:=ry;exact rule i j t t' s _ _ ⟨.bl (g i j),H,I,rfl,q⟩
noncomputable def VV(i j:Int):Prop:=0<j/\j<1073741824
noncomputable def DA(i j:Int):Prop:=(-(2 ^ 64)<i/\i<2 ^ 64)\/(-(2 ^ 64)<j/\j<2 ^ 64)
def DA.ok{i j:Int}(h:DA i j):IntMulOk i j:=by
 rcases h with ⟨h1,h2⟩|⟨h1,h2⟩
 .exact .of_left (intBits_le_64 h1 h2)
 .exact .of_right (intBits_le_64 h1 h2)
def Kz:cV X (binaryOp .Add) (tD λi j=>.int (i+j)):=Ky λ_ _ _ _ _ _ _ q=>add_int q
def KA:cV X (binaryOp .Sub) (tD λi j=>.int (i - j)):=Ky λ_ _ _ _ _ _ _ q=>sub_int q
def KC:cV X (binaryOp .Mult) (rI DA λi j=>.int (i*j)):=Kw λ_ _ _ _ _ _ _ hc q=>mul_int q hc.ok
def HA:cV X (binaryOp .FloorDiv) (rI VV λi j=>.int (i / j)):=Kw λi j _ _ _ _ _ hc q=>by
 have h1:(0:Int)<j:=hc.1;have h2:j<1073741824:=hc.2;exact floordiv_int (by omega) (by rw[Int.fdiv_eq_ediv_of_nonneg i (by omega)];exact q) (.inl (PyProof.noPylong_small (by omega)))
def KD:cV X (binaryOp .Mod) (rI (λ_ j=>0<j) λi j=>.int (i % j)):=Kw λi j _ _ _ _ _ hc q=>by
 have h1:(0:Int)<j:=hc;exact mod_int' (by omega) (by rw[Int.fmod_eq_emod_of_nonneg i (by omega)];exact q)
def Xv{f:Value->Sem Value}{g:Int->Int}
  (rule:∀(i:Int) (t:Tok) (s:Shared) (Q:Value->Shared->Prop) (E:Value->Shared->Prop),Q (.int (g i) s.toks) { s with toks:=s.toks+1 }->wpAny (model X.prog X.w) X.A (f (.int i t)) Q E s) :
  Kv X f (rU λi=>.int (g i)):=by
 intro pins s σ H x v Q I rx h;obtain⟨i,rfl,q⟩:=h;obtain⟨t,rfl⟩:=rx;exact rule i t s _ _ ⟨.int (g i),H,I.tok _,⟨_,rfl⟩,q⟩
def KG:Kv X (unaryOp .USub) (rU λi=>.int (-i)):=Xv λ_ _ _ _ _ q=>neg_int q
end
section
variable{X:Cx}{a b c:Expr}{ta tb tc:TE}{pos:Pos}
def Ql:cV X (compareOp .Lt) (tD λi j=>.bl (decide (i<j))):=Dz λ_ _ _ _ _ _ _ q=>lt_int q
def Qm:cV X (compareOp .LtE) (tD λi j=>.bl (decide (i<=j))):=Dz λ_ _ _ _ _ _ _ q=>le_int q
def Qn:cV X (compareOp .Gt) (tD λi j=>.bl (decide (j<i))):=Dz λ_ _ _ _ _ _ _ q=>gt_int q
def lE(b:Expr){op:CmpOp}(h:op≠.In:=by decide)(h2:op≠.NotIn:=by decide):behindInMarks op b=false:=by
 have e1:(op==CmpOp.In)=false:=by cases op<;>first|rfl|exact absurd rfl h
 have e2:(op==CmpOp.NotIn)=false:=by cases op<;>first|rfl|exact absurd rfl h2
 cases b<;>simp[behindInMarks,e1,e2]
def HB{op:CmpOp}{r:R2}(ho:cV X (compareOp op) r)(ha:PE X a ta)(hb:PE X b tb)(hm:behindInMarks op b=false):PE X (.Compare a [op] [b] pos) (Bh r ta tb):=by
 intro pins s σ H Q I h;exact wpAny_Compare1 (zG ha hb I h λv u s2 x y H2 I2 rx ry q=>ho pins s2 σ H2 x y v u Q I2 rx ry q) hm
noncomputable def zH(t:TE):TT:=λσ H Q=>t σ H λx H'=>∃k,x=.bl k/\Q k H'
def HC{op:CmpOp}{r:R2}(ho:cV X (compareOp op) r)(ha:PE X a ta)(hb:PE X b tb)(hm:behindInMarks op b=false):PT X (.Compare a [op] [b] pos) (zH (Bh r ta tb)):=by
 intro pins s σ H Q I h;refine wpAny_isTrue_Compare1 (bF (ha pins s σ H _ I h) λv s1 ⟨x,H1,I1,r1,q1⟩=>bF (hb pins s1 σ H1 _ I1 q1) λu s2 ⟨y,H2,I2,r2,q2⟩=>
  bF (ho pins s2 σ H2 x y v u _ I2 r1 r2 q2) λc s3 ⟨z,H3,I3,r3,k,e,q3⟩=>?_) hm
 subst e;cases r3;exact aaP ⟨H3,I3,q3⟩
noncomputable def vg(r r':R2)(ta tb tc:TE):TE:=λσ H Q=>ta σ H λx H1=>tb σ H1 λy H2=>r x y H2 λz H3=>∃k,z=.bl k/\
 (if k=true then tc σ H3 λw' H4=>r' y w' H4 Q else Q (.bl false) H3)
def DB{op op':CmpOp}{r r':R2}(ho:cV X (compareOp op) r)(ho':cV X (compareOp op') r')(ha:PE X a ta)(hb:PE X b tb)(hc:PE X c tc)
  (hm:lastMarks [op,op'] [b,c]=false:=by with_unfolding_all rfl):PE X (.Compare a [op,op'] [b,c] pos) (vg r r' ta tb tc):=by
 intro pins s σ H Q I h;refine Compare_chain (bF (ha pins s σ H _ I h) λv s1 ⟨x,H1,I1,r1,q1⟩=>chain_link (bF (hb pins s1 σ H1 _ I1 q1) λu s2 ⟨y,H2,I2,r2,q2⟩=>
  bF (ho pins s2 σ H2 x y v u _ I2 r1 r2 q2) λd s3 ⟨z,H3,I3,r3,k,e,q3⟩=>?_)) hm
 subst e;cases r3;refine aaP ?_;cases k with
 |false=>exact ite_ff ⟨.bl false,H3,I3,rfl,q3⟩
 |true=>exact ite_tt (chain_last (bF (hc pins s3 σ H3 _ I3 q3) λw' s4 ⟨z',H4,I4,r4,q4⟩=>ho' pins s4 σ H4 y z' u w' Q I4 r2 r4 q4))
def DC{op op':CmpOp}{r r':R2}(ho:cV X (compareOp op) r)(ho':cV X (compareOp op') r')(ha:PE X a ta)(hb:PE X b tb)(hc:PE X c tc)
  (hm:lastMarks [op,op'] [b,c]=false:=by with_unfolding_all rfl):PT X (.Compare a [op,op'] [b,c] pos) (zH (vg r r' ta tb tc)):=by
 intro pins s σ H Q I h;refine isTrue_chain (bF (ha pins s σ H _ I h) λv s1 ⟨x,H1,I1,r1,q1⟩=>test_link (bF (hb pins s1 σ H1 _ I1 q1) λu s2 ⟨y,H2,I2,r2,q2⟩=>
  bF (ho pins s2 σ H2 x y v u _ I2 r1 r2 q2) λd s3 ⟨z,H3,I3,r3,k,e,q3⟩=>?_)) hm
 subst e;cases r3;refine aaP ?_;cases k with
 |false=>
  obtain⟨k',e',q'⟩:=q3;cases e';exact ite_ff ⟨H3,I3,q'⟩
 |true=>
  refine ite_tt (test_last (bF (hc pins s3 σ H3 _ I3 q3) λw' s4 ⟨z',H4,I4,r4,q4⟩=>bF (ho' pins s4 σ H4 y z' u w' _ I4 r2 r4 q4) λd' s5 ⟨z2,H5,I5,r5,k2,e2,q5⟩=>?_));subst e2;cases r5;exact aaP ⟨H5,I5,q5⟩
noncomputable def DE(K:PySem.W.Frag)(x:V)(H:Hp)(k:Bool):Prop:=
 match x with
 |.bz=>k=false
 |.bl b=>k=b
 |.int i=>k=(i != 0)
 |.str y=>y.length<=sizeLine/\k=((y.length:Int) != 0)
 |.A6 y=>y.size<=sizeLine/\k=((y.size:Int) != 0)
 |.ref p=>(∃xs,fS K H p xs/\k = !xs.isEmpty)\/(∃xs,ee K H p xs/\k = !xs.isEmpty)\/∃kvs,H p=some (.dK kvs)/\k = !kvs.isEmpty
 |_=>False
def zI{κ:Type}{kvs:List (κ×V)}{vs:List (κ×Value)}(r:KV kvs vs):(!vs.isEmpty) = !kvs.isEmpty:=by
 cases r<;>rfl
def qh{xs:List V}{its:List Value}(r:Vals xs its):(!its.toArray.isEmpty) = !xs.isEmpty:=by
 cases r<;>simp
def lF:(sizeLine:Nat)<2 ^ 63:=by rw[aa9];decide
def KH:VU X (λx H Q=>∃k,DE X.K x H k/\Q k H):=by
 intro pins s σ H x v Q I rx h;obtain⟨k,e,q⟩:=h;have hl:=lF;have hs:sizeLine=16777216:=aa9;cases x with
 |bz=>
  cases rx;have e':k=false:=e;subst e';exact truthy_none ⟨H,I,q⟩
 |bl b=>
  cases rx;have e':k=b:=e;subst e';exact aaP ⟨H,I,q⟩
 |int i=>
  obtain⟨t,rfl⟩:=rx;have e':k=(i != 0):=e;subst e';exact PySem.P.truthy_int ⟨H,I,q⟩
 |str y=>
  obtain⟨t,rfl⟩:=rx;obtain⟨hy,e'⟩:y.length<=sizeLine/\k=((y.length:Int) != 0):=e;subst e';exact PySem.P.truthy_str (by omega) ⟨H,I.tok _,q⟩
 |A6 y=>
  obtain⟨t,rfl⟩:=rx;obtain⟨hy,e'⟩:y.size<=sizeLine/\k=((y.size:Int) != 0):=e;subst e';exact PySem.W.truthy_bytes (by omega) ⟨H,I.tok _,q⟩
 |ref p=>
  cases rx;have e':(∃xs,fS X.K H p xs/\k = !xs.isEmpty)\/(∃xs,ee X.K H p xs/\k = !xs.isEmpty)\/∃kvs,H p=some (.dK kvs)/\k = !kvs.isEmpty:=e;rcases e' with ⟨xs,hx,e'⟩|⟨xs,hx,e'⟩|⟨kvs,hx,e'⟩
  .subst e';obtain⟨its,r,pl,hz⟩:=I.list hx;have hlen:=r.length;exact wpAny_truthy_list pl.isList (by simp only[G3];omega) ⟨H,I.tok _,by rw[qh r];exact q⟩
  .subst e';obtain⟨its,r,pl,hz⟩:=I.tuple hx;have hlen:=r.length;exact truthy_tuple pl (by simp only[G3];omega) ⟨H,I.tok _,by rw[qh r];exact q⟩
  .subst e';obtain⟨hz,hS,vs,r,m⟩:kvs.length<=sizeLine/\(p==sysModules)=false/\∃vs,KV kvs vs/\s.heap.DictOf (rF X.prog X.w) p vs:=I.hok p _ hx;have hlen:kvs.length=vs.length:=Paired.length r;exact wpAny_truthy_dict hS m (by omega) ⟨H,I.tok _,by rw[zI r];exact q⟩
 |_=>exact(show False from e).elim
def DF(ha:PE X a ta)(he:∀whole,isTrue a X.env whole=(do let v <-whole;standAt a.pos;holding [v] (truthy v))) :
  PT X a (λσ H Q=>ta σ H λx H'=>∃k,DE X.K x H' k/\Q k H'):=by
 intro pins s σ H Q I h;exact isTrue_plain (bF (ha pins s σ H _ I h) λv s1 ⟨x,H1,I1,r1,q1⟩=>KH pins s1 σ H1 x v Q I1 r1 q1) (he _)
def zJ:cV X (binaryOp .Add) (λx y H Q=>∃i j,x=.str i/\y=.str j/\i.length+j.length<=sizeLine/\Q (.str (i++j)) H):=by
 intro pins s σ H x y v u Q I rx ry h;obtain⟨i,j,rfl,rfl,hz,q⟩:=h;obtain⟨t,rfl⟩:=rx;obtain⟨t',rfl⟩:=ry;exact add_str (λt' tk=>⟨.str (i++j),H,I.tok _,⟨_,rfl⟩,q⟩) hz
def vals1{x:V}{us:List Value}(r:Vals [x] us):∃u,us=[u]/\RelV x u:=by
 cases r with
 |cons r1 r2=>cases r2;exact⟨_,rfl,r1⟩
def vals2{x y:V}{us:List Value}(r:Vals [x,y] us):∃u w',us=[u,w']/\RelV x u/\RelV y w':=by
 cases r with
 |cons r1 r2=>
  cases r2 with
  |cons r3 r4=>cases r4;exact⟨_,_,rfl,r1,r3⟩
def Bj (hc:X.calm=true):fG X (.builtin "min") (λxs H Q=>∃i j,xs=[.int i,.int j]/\Q (.int (if j<i then j else i)) H):=by
 intro pins s σ H xs us Q I r h;obtain⟨i,j,rfl,q⟩:=h;obtain⟨u,w',rfl,⟨t,rfl⟩,⟨t',rfl⟩⟩:=vals2 r;refine min_two_ints (I.ok.hd hc) λh' tk k=>⟨_,H,I.kept k,?_,q⟩
 by_cases hj:j<i
 .rw[JP hj,JP hj];exact⟨_,rfl⟩
 .rw[Yu hj,Yu hj];exact⟨_,rfl⟩
end
structure DG(h:Heap)(x dx C:Addr)(mA:Str->Option Value):Prop where
 obj:h.get? x=some (PySem.W.instObj C dx)
 ns:h.Ns1 dx mA
 ne:dx≠x
def Bk{h:Heap}{dx:Addr}{mA:Str->Option Value}(n:h.Ns1 dx mA):∃od,h.get? dx=some od/\∀name,PySem.W.lookIn name od=some (mA name):=by
 obtain⟨o,es,ep,ho,hd,hk,_,hm⟩:=n;refine⟨o,ho,λname=>?_⟩;have e:=hm name;unfold nsFind findBy at e;rw[<-Array.find?_toList]at e;unfold PySem.W.lookIn;rw[hd];dsimp only;split
 .rename_i y q;rw[q]at e;exact aab some e
 .rename_i q;rw[q]at e;have a:es.toList.any (·.refKey)=false:=by
   rw[List.any_eq_false];intro y hy;obtain⟨z,t,hkey⟩:=hk y (Array.mem_toList_iff.mp hy);simp[DictEntry.refKey,hkey]
  have a':¬ es.toList.any (·.refKey)=true:=by rw[a];exact aaM
  rw[Yu a'];exact aab some e
def DG.look{h:Heap}{x dx C:Addr}{mA:Str->Option Value}(I:DG h x dx C mA):∃od,PySem.W.InstAt h x (PySem.W.instObj C dx) C (some od)/\∀name,PySem.W.lookIn name od=some (mA name):=
 let ⟨od,ho,hl⟩:=Bk I.ns
 ⟨od,⟨I.obj,rfl,rfl,ho⟩,hl⟩
section
variable{P:Program}{w:World}{H:Hp}{h:Heap}{a C dx:Addr}{fs:List (Str×V)}
def HD(hok:gn P w H h)(e:H a=some (.ins C dx fs)):∃mA,DG h a dx C mA/\(∀f,Dn (fs.lookup f) (mA f))/\PySem.Within mA (fs.map (·.1))/\fs.length<=1000/\H dx=some (.own a):=by
 obtain⟨d,z,ne,ob,mA,n,r,q⟩:=(show eG P w H h a (.ins C dx fs)from hok a _ e)
 exact⟨mA,⟨ob,n,ne⟩,r,q,z,d⟩
end
structure KI(K:PySem.W.Frag)(C:Addr):Prop where
 pg:PySem.W.plainGet K C Str.empty=true
 hd:PySem.W.hasDictIn K C=true
 po:PySem.W.plainOver K C=true
 sa:PySem.W.findIn K (.ref C) "__setattr__" = some (some (.builtin "object.__setattr__"))
def KI.get{K:PySem.W.Frag}{C:Addr}(c:KI K C)(f:Str):PySem.W.plainGet K C f=true:=c.pg
section
variable{X:Cx}{pins:List (Addr×Obj)}{σ:St}{H:Hp}{s:Shared}{A:Around}{E:Value->Shared->Prop}{Q:Value->Shared->Prop}{c:Value}{b:Bool}
inductive jt(K:PySem.W.Frag)(H:Hp):V->Value->Prop where
 |bz:jt K H .bz (.type "NoneType")
 |bl (x:Bool):jt K H (.bl x) (.type "bool")
 |int (i:Int):jt K H (.int i) (.type "int")
 |str (x:Str):jt K H (.str x) (.type "str")
 |yh (x:UInt64):jt K H (.yh x) (.type "float")
 |lst {a:Addr} {xs:List V} (e:H a=some (.lst xs)):jt K H (.ref a) (.type "list")
 |bU {a:Addr} {o:Obj} {xs:List V} (e:H a=some (.bU o (.lst xs))):jt K H (.ref a) (.type "list")
 |tup {a:Addr} {xs:List V} (e:H a=some (.tup xs)):jt K H (.ref a) (.type "tuple")
 |dK {a:Addr} {kvs:List (Key×V)} (e:H a=some (.dK kvs)):jt K H (.ref a) (.type "dict")
 |dT {a:Addr} {kvs:List (List Key×V)} (e:H a=some (.dT kvs)):jt K H (.ref a) (.type "dict")
 |ins {a C dx:Addr} {fs:List (Str×V)} (e:H a=some (.ins C dx fs)) (cl:KI K C) (ha:PySem.W.findIn K (.ref C) "__class__" = some (some (.builtin "object.__class__")))
   (hn:PySem.W.specialIn K (.builtin "object.__class__") "__get__" = some (some (.builtin "getset_descriptor.__get__"))) (htk:PySem.W.takesIn K (.builtin "object.__class__")=some true)
   (hm:PySem.W.mroIn K C (.type "object")=some true):jt K H (.ref a) (.ref C)
def kj{x:V}{u t:Value}(I:Inv X pins σ H s)(rx:RelV x u)(ty:jt X.K H x t)(e:PySem.W.kitOne X.K t c=some b)(h:∀tk,Q (.bool b) { s with toks:=tk }) :
  wpAny (model X.prog X.w) A (call (.builtin "isinstance") [u,c]) Q E s:=by
 cases ty with
 |bz=>cases (show u=Value.none from rx);exact aav PySem.W.kitx_none I.gK True.intro e (λz=>nomatch z) h
 |bl y=>cases (show u=Value.bool y from rx);exact aav PySem.W.kitx_bool I.gK True.intro e (λz=>nomatch z) h
 |int i=>obtain⟨t,q⟩:=(show ∃t,u=Value.int i t from rx);cases q;exact aav PySem.W.kitx_int I.gK True.intro e (λz=>nomatch z) h
 |str y=>obtain⟨t,q⟩:=(show ∃t,u=Value.str y t from rx);cases q;exact aav PySem.W.kitx_str I.gK True.intro e (λz=>nomatch z) h
 |yh y=>obtain⟨t,q⟩:=(show ∃t,u=Value.float y t from rx);cases q;exact aav PySem.W.kitx_float I.gK True.intro e (λz=>nomatch z) h
 |@lst a xs ea=>
  cases (show u=Value.ref a from rx);obtain⟨_,_,n,_,h1⟩:=(show eG X.prog X.w H s.heap a (.lst xs)from I.hok a _ ea)
  exact aav acm I.gK ⟨_,h1,rfl⟩ e (λz=>nomatch z) h
 |@bU a ob xs ea=>
  cases (show u=Value.ref a from rx);obtain⟨_,_,_,n,_,h1⟩:=(show eG X.prog X.w H s.heap a (.bU ob (.lst xs))from I.hok a _ ea)
  exact aav acm I.gK ⟨_,h1,rfl⟩ e (λz=>nomatch z) h
 |@tup a xs ea=>
  cases (show u=Value.ref a from rx);obtain⟨_,_,_,p⟩:=(show eG X.prog X.w H s.heap a (.tup xs)from I.hok a _ ea)
  obtain⟨o,h1,h2,_⟩:=p;exact aav ac4 I.gK ⟨o,h1,h2⟩ e (λz=>nomatch z) h
 |@dK a kvs ea=>
  cases (show u=Value.ref a from rx);obtain⟨_,_,vs,_,p⟩:=(show eG X.prog X.w H s.heap a (.dK kvs)from I.hok a _ ea)
  obtain⟨o,es,ep,h1,h2,_⟩:=p;exact aav PySem.W.kitx_dict I.gK ⟨o,h1,h2.1⟩ e (λz=>nomatch z) h
 |@dT a kvs ea=>
  cases (show u=Value.ref a from rx);obtain⟨_,_,xs,_,o,es,ep,h1,h2,_⟩:=(show eG X.prog X.w H s.heap a (.dT kvs)from I.hok a _ ea)
  exact aav PySem.W.kitx_dict I.gK ⟨o,h1,h2.1⟩ e (λz=>nomatch z) h
 |@ins a C dx fs ea cl ha hn htk hm=>
  cases (show u=Value.ref a from rx);obtain⟨mA,O,_⟩:=HD I.hok ea;obtain⟨od,J,_⟩:=O.look;exact aav (PySem.W.kitx_own (cl.get _) cl.hd ha hn htk hm) I.gK J e (λz=>nomatch z) h
end
structure g9(k:Nat)(A:Around):Prop where
 hd:A.handled=none
 dp:A.depth+3*k+5<recursionLimit
 un:A.units+16*k+200<cLine
theorem g9.deeper{k:Nat}{A:Around}(r:g9 (k+1) A)(env:Env):g9 k (A.deeper env):=
 ⟨r.hd,by have:=r.dp;show A.depth+1+3*k+5<_;omega,by have:=r.un;show A.units+3+16*k+200<_;omega⟩
theorem g9.depth{k:Nat}{A:Around}(r:g9 k A):A.depth<recursionLimit:=by have:=r.dp;omega
noncomputable def VW:TA:=λ_ H Q=>Q [] H
noncomputable def Qo(ta:TE)(tr:TA):TA:=λσ H Q=>ta σ H λx H1=>tr σ H1 λxs H2=>Q (x :: xs) H2
section
variable{X:Cx}{e:Expr}{es:List Expr}{te:TE}{t:TA}{pos:Pos}
def qi:PA X [] VW:=λ_ _ _ _ H Q I h=>Calls.spliced_nil ⟨[],H,I,.nil,h⟩
def lG(ha:PE X e te)(hr:PA X es t)(hs:starEach (e :: es) X.env=(false,eval e X.env) :: starEach es X.env:=by rfl):PA X (e :: es) (Qo te t):=by
 intro pos pins s σ H Q I h;rw[hs];show wpAny _ _ (spliced ((false,eval e X.env) :: backTo pos (starEach es X.env))) _ _ s;refine Calls.spliced_cons (bF (ha pins s σ H _ I h) λu s1 ⟨x,H1,I1,r1,q1⟩=>?_);exact bF (hr pos pins s1 σ H1 _ I1 q1) λus s2 ⟨xs,H2,I2,r2,q2⟩=>⟨x :: xs,H2,I2,.cons r1 r2,q2⟩
noncomputable def VX(t:TA):TE:=λσ H Q=>t σ H λxs H1=>xs.length<=sizeLine/\∀p,H1 p=none->Q (.ref p) (upd H1 p (.tup xs))
noncomputable def VY(t:TA):TE:=λσ H Q=>t σ H λxs H1=>xs.length<=sizeLine/\∀p,H1 p=none->Q (.ref p) (upd H1 p (.lst xs))
def KJ{x1}(h:PA X es t):PE X (.Tuple es x1 pos) (VX t):=by
 intro pins s σ H Q I hq;refine wpAny_Tuple_spliced (bF (h pos pins s σ H _ I hq) λus s1 ⟨xs,H1,I1,r,z,q⟩=>⟨by rw[<-r.length];exact z,?_⟩);have hf:H1 s1.heap.objs.size=none:=I1.hok.fresh (WE _);refine⟨.ref s1.heap.objs.size,upd H1 s1.heap.objs.size (.tup xs),I1.laid (t':=s1.toks) (λb u e=>FJ _ e) (WE _) ?_,rfl,q _ hf⟩;exact⟨z,us,r,⟨_,aae _ rfl,rfl,_,rfl⟩⟩
def KL(h:PA X es t):PE X (.List es pos) (VY t):=by
 intro pins s σ H Q I hq;refine wpAny_List_spliced (bF (h pos pins s σ H _ I hq) λus s1 ⟨xs,H1,I1,r,z,q⟩=>⟨by rw[<-r.length];exact z,?_⟩);have hf:H1 s1.heap.objs.size=none:=I1.hok.fresh (WE _);refine⟨.ref s1.heap.objs.size,upd H1 s1.heap.objs.size (.lst xs),I1.laid (t':=s1.toks) (λb u e=>FJ _ e) (WE _) ?_,rfl,q _ hf⟩;exact⟨z,us,0,r,aae _ rfl⟩
end
abbrev Sp:=List V->Hp->VK->XK->Prop
abbrev mU:=List Env->Hp->Shared->XK->Value->Shared->Prop
structure zK(P:Program)(w:World)(K:PySem.W.Frag)(mg:Str->Option Value)(base:Heap)(A:Around)(outer:List Env)(s:Shared)(H:Hp):Prop where
 frames:A.frames=some outer
 mod:Mod K mg base
 bs:∀b o,base.get? b=some o->s.heap.get? b=some o/\H b=none
 sW:base.objs.size<=s.heap.objs.size
 jr:s.heap.FunFrames base outer
 u7:∀b∈frs outer,H b=none
 hok:gn P w H s.heap
 bare:AllBare s.gens
noncomputable def CE(outer:List Env)(P:Program)(w:World)(H:Hp)(s:Shared)(Q:VK)(u:Value)(s':Shared):Prop:=
 ∃v H',s'.os=s.os/\AllBare s'.gens/\Un (frs outer) [] H H' s.heap s'.heap/\gn P w H' s'.heap/\RelV v u/\Q v H'
noncomputable def CR(CX:mU)(outer:List Env)(P:Program)(w:World)(H:Hp)(s:Shared)(Q:VK)(E:XK)(r:Result)(s':Shared):Prop:=
 match r with
 |.ok (.ret u)=>CE outer P w H s Q u s'
 |.ok _=>False
 |.error e=>CX outer H s E e s'
structure iW(P:Program)(w:World)(K:PySem.W.Frag)(mg:Str->Option Value)(base:Heap)(CX:mU)(k:Nat)(f:Addr)(fd:FuncData)(ps:List Str)(sp:Sp):Prop where
 len:∀vs H Q E,sp vs H Q E->vs.length=ps.length
 run:∀(A:Around) (outer:List Env) (s:Shared) (H:Hp) (args:Args) (us:List Value) (vs:List V) (Q:VK) (E:XK),g9 k A->zK P w K mg base A outer s H->BindsTo s fd args (ps.zip us)->Vals vs us->sp vs H Q E->
  codeAny (model P w) A (.call (.ref f) args) (CR CX outer P w H s Q E) s
section
variable{X:Cx}{pins:List (Addr×Obj)}{σ:St}{H:Hp}{s s':Shared}
def Inv.VZ(I:Inv X pins σ H s):zK X.prog X.w X.K X.mg X.base X.A X.stack s H:=
 ⟨I.ok.frames,I.ok.mod,I.bs,aaa I.ok.sW I.sz,I.stack,I.yk,I.hok,I.bare⟩
def Inv.after{Q:VK}{u:Value}(I:Inv X pins σ H s)(h:CE X.stack X.prog X.w H s Q u s'):EP X pins σ Q u s':=by
 obtain⟨v,H',os,bare,un,hok,r,q⟩:=h;obtain⟨hh,g,d,t,os'⟩:=s';obtain rfl:os'=s.os:=os;exact⟨v,H',I.call (h':=hh) (g':=g) (d':=d) (t':=t) (ch:=[]) un hok bare (λb z=>absurd z (by simp)),r,q⟩
end
noncomputable def Qp(sp:Sp)(jT:List V)(E:XK)(t:TA):TE:=λσ H Q=>t σ H λvs H1=>sp (vs++jT) H1 Q E
noncomputable def Binds(K:PySem.W.Frag)(fd:FuncData)(ps:List Str)(ds:List Value):Prop:=
 ∀(s:Shared) (us:List Value),K.In s.heap->(us++ds).length=ps.length->BindsTo s fd ⟨us,[]⟩ (ps.zip (us++ds))
def Binds.all{K:PySem.W.Frag}{fd:FuncData}{ps:List Str}(h:∀us:List Value,us.length=ps.length->bindArgs fd ⟨us,[]⟩=pure (ps.zip us)):Binds K fd ps []:=λs us _ hl=>by
 rw[aao]at hl ⊢;exact .of_eq (h us hl)
noncomputable def Passes(CX:mU)(X:Cx)(E:XK):Prop:=∀(pins:List (Addr×Obj)) (σ:St) (H:Hp) (s:Shared) (e:Value) (s':Shared),Inv X pins σ H s->CX X.stack H s E e s'->X.xe e s'
section
variable{X:Cx}{CX:mU}{k:Nat}{f:Addr}{fd:FuncData}{ps:List Str}{sp:Sp}{jT:List V}{ds:List Value}{E:XK}{x:Str}{p pos:Pos}{e:Expr}{es:List Expr}{t:TA}
def KN{pins:List (Addr×Obj)}{σ:St}{H:Hp}{s:Shared}{Q:VK}{us:List Value}{vs:List V}(F:iW X.prog X.w X.K X.mg X.base CX k f fd ps sp)(hr:g9 k X.A)(hb:Binds X.K fd ps ds)(hd:Vals jT ds)(hx:Passes CX X E)
  (I:Inv X pins σ H s) (r:Vals vs us) (h:sp (vs++jT) H Q E):wpAny (model X.prog X.w) X.A (call (.ref f) us) (EP X pins σ Q) X.xe s:=by
 have r2:Vals (vs++jT) (us++ds):=r.append hd;have hl:(us++ds).length=ps.length:=by rw[<-r2.length];exact F.len _ _ _ _ h
 refine wpAny_call (codeAny_mono (F.run X.A X.stack s H ⟨us,[]⟩ (us++ds) (vs++jT) Q E hr I.VZ (hb s us I.gK hl) r2 h) λr s' hq=>?_);cases r with
 |error e=>exact hx pins σ H s e s' I hq
 |ok fl=>
  cases fl with
  |ret u=>exact I.after hq
  |next=>exact False.elim hq
  |brk=>exact False.elim hq
  |cont=>exact False.elim hq
def HE(F:iW X.prog X.w X.K X.mg X.base CX k f fd ps sp)(hr:g9 k X.A)(hg:Gl X x)(hm:X.mg x=some (.ref f))(hk:PySem.W.keepIn X.K (.ref f)=true)(hb:Binds X.K fd ps ds)(hd:Vals jT ds)(hx:Passes CX X E)
  (ha:PA X (e :: es) t) (hdb:(x==("__debug__" : Str))=false:=by decide) (he:starEach (e :: es) X.env=(false,eval e X.env) :: starEach es X.env:=by rfl) (hpl:(backTo pos (starEach es X.env)).any (·.1)=false:=by rfl) :
  PE X (.Call (.Name x p) (e :: es) [] pos) (Qp sp jT E t):=by
 intro pins s σ H Q I h;refine abz (ym I hg hm ?_ hdb);refine PySem.W.callWith_K (h₀:=X.base) I.ok.mod.Ga hk (bF (ha pos pins s σ H _ I h) λus s1 ⟨vs,H1,I1,r,q⟩=>⟨I1.gK,?_⟩) he hpl;exact KN F hr hb hd hx I1 r q
end
structure aY(N P:List Str)(sc:Scope):Prop where
 kind:sc.kind=.function
 co:sc.isCoroutine=false
 gen:sc.isGenerator=false
 nd:N.Nodup
 pre:N.take P.length=P
 par:∀x∈P,sc.names.lookup x=some .local\/sc.names.lookup x=some .cell
 KO:∀y∈sc.names,y.2≠.free
theorem tE{kindOf:Str->Option NameKind}{x:Str}:∀{binds:List (Str×Value)}{m:Str->Option Value},(∀v,(x,v)∉binds)->bindL kindOf binds m x=m x
 |[],_,_=>rfl
 | (n,v) :: r,m,h=>by
  unfold bindL;rw[tE λw hw=>h w (aag _ hw)];split
  .have:x≠n:=by rintro rfl;exact h v aaG
   simp[this]
  .rfl
theorem tF{kindOf:Str->Option NameKind}{x:Str}:∀{binds:List (Str×Value)}{m:Str->Option Value},(∀v,(x,v)∉binds)->bindC kindOf binds m x=m x
 |[],_,_=>rfl
 | (n,v) :: r,m,h=>by
  unfold bindC;rw[tF λw hw=>h w (aag _ hw)];split
  .rfl
  .have:x≠n:=by rintro rfl;exact h v aaG
   simp[this]
theorem tG{kindOf:Str->Option NameKind}{x:Str}{v:Value}:∀{P:List Str}{vs:List Value}{i:Nat}{m:Str->Option Value},P.Nodup->P[i]?=some x->vs[i]?=some v->kindOf x=some .local->
  bindL kindOf (P.zip vs) m x=some v
 |[],_,_,_,_,h,_,_=>by simp at h
 |_ :: _,[],_,_,_,_,h,_=>by simp at h
 |p :: P,w :: vs,0,m,nd,h1,h2,hk=>by
  simp at h1 h2;subst h1;subst h2;show bindL kindOf ((p,w) :: P.zip vs) m p=_;unfold bindL;rw[tE λv hv=>(List.nodup_cons.mp nd).1 (acK hv).1,JP hk];simp
 |p :: P,w :: vs,i+1,m,nd,h1,h2,hk=>by
  show bindL kindOf ((p,w) :: P.zip vs) m x=_;unfold bindL;exact tG (i:=i) (List.nodup_cons.mp nd).2 (by simpa using h1) (by simpa using h2) hk
theorem tK{kindOf:Str->Option NameKind}{x:Str}{v:Value}:∀{P:List Str}{vs:List Value}{i:Nat}{m:Str->Option Value},P.Nodup->P[i]?=some x->vs[i]?=some v->kindOf x≠some .local->
  bindC kindOf (P.zip vs) m x=some v
 |[],_,_,_,_,h,_,_=>by simp at h
 |_ :: _,[],_,_,_,_,h,_=>by simp at h
 |p :: P,w :: vs,0,m,nd,h1,h2,hk=>by
  simp at h1 h2;subst h1;subst h2;show bindC kindOf ((p,w) :: P.zip vs) m p=_;unfold bindC;rw[tF λv hv=>(List.nodup_cons.mp nd).1 (acK hv).1,Yu hk];simp
 |p :: P,w :: vs,i+1,m,nd,h1,h2,hk=>by
  show bindC kindOf ((p,w) :: P.zip vs) m x=_;unfold bindC;exact tK (i:=i) (List.nodup_cons.mp nd).2 (by simpa using h1) (by simpa using h2) hk
noncomputable def start(N:List Str)(vs:List V):St:=vs.map some++List.replicate (N.length - vs.length) none
noncomputable def pI(CX:mU)(P:Program)(w:World)(K:PySem.W.Frag)(mg:Str->Option Value)(base:Heap)(N:List Str)(qual:Str)(scope:Scope)(f:Addr)(cd:Value)(A:Around)(outer:List Env)(s:Shared)(H:Hp)(E:XK):Cx where
 prog:=P
 w:=w
 K:=K
 mg:=mg
 base:=base
 A:=A.deeper (envOfC qual scope s.heap.objs.size f cd)
 N:=N
 s₀:=s
 H₀:=H
 env:=envOfC qual scope s.heap.objs.size f cd
 outer:=outer
 stack:=envOfC qual scope s.heap.objs.size f cd :: outer
 ex:=[]
 calm:=true
 fn:=λ_=>true
 pn:=[]
 xe:=λe s'=>wpAny (model P w) (A.deeper (envOfC qual scope s.heap.objs.size f cd)) (leaving (envOfC qual scope s.heap.objs.size f cd) e) (λ_ s''=>CX outer H s E e s'') (λe' s''=>CX outer H s E e' s'') s'
def vh{sc:Scope}{n:Nat}{x:Str}(h:sc.names.lookup x=some .cell):∃c,(cellsFrom n sc.names []).lookup x=some c:=by
 have q:=acL sc.names n [] (.inl h);exact Option.isSome_iff_exists.mp q
def Bm{CX:mU}{P:Program}{w:World}{K:PySem.W.Frag}{mg:Str->Option Value}{base:Heap}{N ps:List Str}{qual:Str}{scope:Scope}{f:Addr}{cd:Value}{A:Around}{outer:List Env}{s s1:Shared}{H:Hp}{E:XK}{us:List Value}{vs:List V}
  (S:aY N ps scope) (hd:A.handled=none) (e0:zK P w K mg base A outer s H) (hl:vs.length=ps.length) (r:Vals vs us)
  (x:InCallC s s.heap.objs.size (bindL (envOfC qual scope s.heap.objs.size f cd).kindOf (ps.zip us) λ_=>none) (cellsFrom (s.heap.objs.size+1) scope.names []) (bindC (envOfC qual scope s.heap.objs.size f cd).kindOf (ps.zip us) λ_=>none) s1) :
  Inv (pI CX P w K mg base N qual scope f cd A outer s H E) [] (start N vs) H s1:=by
 have hpl:ps.length<=N.length:=by have:=aab List.length S.pre;rw[aba]at this;omega
 obtain⟨h1,tk,rfl,hk⟩:=x.done;have Bo:∀b:Addr,b∉(pI CX P w K mg base N qual scope f cd A outer s H E).ex:=λb z=>absurd (show b∈([]:List Addr)from z) (by simp);refine⟨⟨e0.mod,S.kind,rfl,rfl,WE _,λy z c h1 h2=>?_,λy hy=>?_,λy c _ h=>?_,λ_=>hd,Around.frames_deeper e0.frames,.inr ⟨rfl,rfl⟩,λb z=>absurd z (Bo b),e0.bs,e0.sW,λb _ _=>Bo b,λb z=>absurd z (Bo b),e0.jr,e0.u7⟩,
  rfl,e0.bare,Un.kept hk,⟨_,x.toInCall.ns,λi y v h1 h2 h3=>?_⟩,λy c h=>⟨_,x.cell y c h⟩,e0.hok.fresh (WE _),λy c h=>?_,λp hp=>absurd (show p∈([]:List (Addr×Obj))from hp) (by simp),e0.hok.kept hk,?_⟩
 .exact name_of_addr x.apart (abd h1) (abd h2)
 .have hy:scope.names.lookup y=some .cell\/scope.names.lookup y=some .free:=hy;rcases hy with hy|hy
  .exact vh hy
  .exact absurd rfl (S.KO _ (abd hy))
 .exact ac2 (x.above y c (abd h))
 .have hi:i<vs.length:=by
   unfold start at h2;by_cases hi:i<vs.length
   .exact hi
   .rw[aaT (by simpa using hi)]at h2;rw[acH]at h2;split at h2<;>cases h2
  have ha:vs[i]?=some v:=by
   unfold start at h2;rw[Xk (by simpa using hi),aat]at h2;cases e:vs[i]? with
   |none=>rw[e]at h2;cases h2
   |some a=>rw[e]at h2;cases h2;rfl
  obtain⟨u,hu,rv⟩:=r.get ha;have hp:ps[i]?=some y:=by
   rw[<-S.pre,List.getElem?_take_of_lt (by omega)];exact h1
  have TR:ps.Nodup:=by rw[<-S.pre];exact S.nd.sublist (List.take_sublist _ _)
  refine⟨u,rv,?_⟩;rcases S.par y (aam hp)with k|k
  .exact .inl ⟨k,tG TR hp hu k⟩
  .obtain⟨c,e⟩:=vh (n:=s.heap.objs.size+1) k;refine .inr ⟨.inl k,c,e,?_⟩;have q:=x.cell y c e;rw[tK TR hp hu (by show scope.names.lookup y≠_;rw[k];decide)]at q;exact q
 .exact e0.hok.fresh (ac2 (x.above y c (abd h)))
 .unfold start;show _=N.length;rw[Yt,aaw,acP];omega
def Qq{CX:mU}{P:Program}{w:World}{K:PySem.W.Frag}{mg:Str->Option Value}{base:Heap}{k:Nat}{f:Addr}{name qual:Str}{params:Arguments}{body:List Stmt}{scope:Scope}{dV kV doc pm cdv ct oc:Value}{an od:Option Addr}
  {osl:Array (Option Value)} {N ps:List Str} {sp:Sp} (lk:K.lookup f=some ⟨oc,od,.func (PySem.W.fnOf name qual params body scope dV kV doc pm an cdv ct),osl⟩) (hcd:PySem.W.codeIn K cdv qual=true) (S:aY N ps scope)
  (len:∀vs H Q E,sp vs H Q E->vs.length=ps.length)
  (hbody:∀(A:Around) (outer:List Env) (s:Shared) (H:Hp) (vs:List V) (Q:VK) (E:XK),g9 k (A.deeper (envOfC qual scope s.heap.objs.size f cdv))->sp vs H Q E->
   ∃t,iT (pI CX P w K mg base N qual scope f cdv A outer s H E) body t/\t { nx:=λ_ H'=>Q .bz H',rt:=Q } (start N vs) H) :
  iW P w K mg base CX (k+1) f (PySem.W.fnOf name qual params body scope dV kV doc pm an cdv ct) ps sp:=by
 refine⟨len,λA outer s H args us vs Q E hr e0 hb r iu=>?_⟩;have hl:=len _ _ _ _ iu;have KX:K.In s.heap:=e0.mod.Ga.keeps λb o e=>(e0.bs b o e).1;have lim:s.heap.NoLimit:=e0.mod.nolimit.keeps λb o e=>(e0.bs b o e).1;have hkind:∀y∈ps.zip us,scope.names.lookup y.1=some .local\/(scope.names.lookup y.1=some .cell/\((cellsFrom (s.heap.objs.size+1) scope.names []).lookup y.1).isSome=true):=λ⟨n,v⟩ hy=>by
  rcases S.par n (acK hy).1 with q|q
  .exact .inl q
  .exact .inr ⟨q,acL _ _ _ (.inl q)⟩
 refine codeAny_call_function hr.depth (KX _ _ lk) rfl S.co S.gen rfl (PySem.W.codeRec_of KX hcd) (hb _ _ _ _ ?_);refine wpAny_newFunctionEnv_cells S.kind hkind λenv he s1 x=>?_;subst he;refine⟨lim.keeps x.toInCall.keep,codeAny_func ?_⟩;obtain⟨t,ht,hq⟩:=hbody A outer s H vs Q E (hr.deeper _) iu;have I:Inv (pI CX P w K mg base N qual scope f cdv A outer s H E) [] (start N vs) H s1:=Bm S hr.hd e0 hl r x;refine aa1 (ht [] s1 (start N vs) H _ I hq) (λfl s' hs=>?_) λe s' hs=>hs;have fin:∀{σ':St} {H':Hp} {v:V} {u:Value},Inv (pI CX P w K mg base N qual scope f cdv A outer s H E) [] σ' H' s'->RelV v u->Q v H'->CE outer P w H s Q u s':=
  λ{σ' H' v u} J rv q=>⟨v,H',J.os,J.bare,J.base,J.hok,rv,q⟩
 cases fl with
 |ret u=>
  obtain⟨v,σ',H',J,rv,q⟩:=hs;exact fin J rv q
 |next=>
  obtain⟨σ',H',J,q⟩:=hs;exact fin (v:=V.bz) (u:=Value.none) J rfl q
 |brk=>
  obtain⟨_,_,_,q⟩:=hs;exact False.elim q
 |cont=>
  obtain⟨_,_,_,q⟩:=hs;exact False.elim q
section
variable{X:Cx}{x:Str}{p pos:Pos}{e:Expr}{es:List Expr}{t:TA}{id T:String}{r:List V->Hp->VK->Prop}
noncomputable def KP(r:List V->Hp->VK->Prop)(t:TA):TE:=λσ H Q=>t σ H λvs H1=>r vs H1 Q
def vj (hc:fG X (.builtin id) r) (hg:Gl X x) (hm:X.mg x=none) (hv:bootBuiltins x=some (.builtin id)) (ha:PA X (e :: es) t) (hn:x≠"__name__" :=by decide) (hdb:(x==("__debug__" : Str))=false:=by decide)
  (he:starEach (e :: es) X.env=(false,eval e X.env) :: starEach es X.env:=by rfl) (hpl:(backTo pos (starEach es X.env)).any (·.1)=false:=by rfl):PE X (.Call (.Name x p) (e :: es) [] pos) (KP r t):=by
 intro pins s σ H Q I h;refine abz (jS I hg hm hv ?_ hn hdb);exact PyProof.Rows.callWith_builtin1 (bF (ha pos pins s σ H _ I h) λus s1 ⟨vs,H1,I1,r1,q1⟩=>hc pins s1 σ H1 vs us Q I1 r1 q1) he hpl
def tL (hc:fG X (.type T) r) (hg:Gl X x) (hm:X.mg x=none) (hv:bootBuiltins x=some (.type T)) (ha:PA X (e :: es) t) (hn:x≠"__name__" :=by decide) (hdb:(x==("__debug__" : Str))=false:=by decide)
  (he:starEach (e :: es) X.env=(false,eval e X.env) :: starEach es X.env:=by rfl) (hpl:(backTo pos (starEach es X.env)).any (·.1)=false:=by rfl):PE X (.Call (.Name x p) (e :: es) [] pos) (KP r t):=by
 intro pins s σ H Q I h;refine abz (jS I hg hm hv ?_ hn hdb);exact aaR (bF (ha pos pins s σ H _ I h) λus s1 ⟨vs,H1,I1,r1,q1⟩=>hc pins s1 σ H1 vs us Q I1 r1 q1) he hpl
end
end L2
namespace HT
open PySem PyProof.Rows
section
variable{prog:Program}{w:World}{A:Around}{E:Value->Shared->Prop}{s:Shared}
def HF{t b:Addr}{vs ws:List Value}{Q:Value->Shared->Prop}(ht:IsTup s.heap t vs.toArray)(hb:IsTup s.heap b ws.toArray)(hv:vs≠[])
  (h1:ws=[]->Q (.ref t) s) (h2:ws≠[]->Q (.ref s.heap.objs.size) { s with heap:=s.heap.push { cls:=.type "tuple",data:=.seq (vs++ws).toArray }})
  (hsz:vs.length+ws.length<=sizeLine):wpAny (model prog w) A (binaryOp .Add (.ref t) (.ref b)) Q E s:=by
 obtain⟨⟨cls,dd,data,sl⟩,ho,hc,n,hd⟩:=id ht;obtain⟨⟨V0,dd2,data2,sl2⟩,ho2,hc2,n2,hd2⟩:=id hb;simp only at hc hd hc2 hd2;subst hc hd hc2 hd2;have e:vs.toArray++ws.toArray=(vs++ws).toArray:=by simp
 by_cases hw:ws=[]
 .exact concat_meets ⟨_,ho,rfl⟩ ⟨_,ho2,rfl⟩ acz seq_tuple_add abM abG (abD _ _)
   (tuple_addW1 t b vs.toArray ws.toArray n n2 dd dd2 sl sl2 (by simpa using hv) (by simp[hw])) ⟨ho,ho2,h1 hw⟩
 .refine concat_meets ⟨_,ho,rfl⟩ ⟨_,ho2,rfl⟩ acz seq_tuple_add abM abG (abD _ _)
   (tuple_addW2 t b vs.toArray ws.toArray n n2 dd dd2 sl sl2 (by simpa using hv) (by simpa using hw) (by rw[G3,G3];exact hsz)) ⟨ho,ho2,?_⟩
  rw[e];exact h2 hw
noncomputable def aS(n d:Nat):Option Int->Nat
 |none=>d
 |some v=>if v<0 then (v+(n:Int)).toNat else min v.toNat n
def vm(n d:Nat)(hd:d<=n)(o:Option Int):aS n d o<=n:=by
 cases o with
 |none=>exact hd
 |some v=>
  show(if v<0 then (v+(n:Int)).toNat else min v.toNat n)<=n;by_cases hv:v<0
  .rw[JP hv];omega
  .rw[Yu hv];exact Nat.min_le_right _ _
def yq(v:Int)(n d:Nat):(if v<0 then max (v+(n:Int)) 0 else min v (n:Int))=((aS n d (some v):Nat):Int):=by
 show(if v<0 then max (v+(n:Int)) 0 else min v (n:Int))=(((if v<0 then (v+(n:Int)).toNat else min v.toNat n):Nat):Int)
 by_cases hv:v<0
 .simp only[JP hv];omega
 .simp only[Yu hv];omega
def zL(lo hi:Option Int)(n:Nat):Builtin.Slice.sliceAdjust lo hi 1 (n:Int)=(((aS n 0 lo:Nat):Int),((aS n n hi:Nat):Int)):=by
 have h1:¬ ((1:Int)<0):=by omega
 unfold Builtin.Slice.sliceAdjust;simp only[h1,aaL];refine Prod.ext ?_ ?_
 .cases lo with
  |none=>rfl
  |some v=>exact yq v n 0
 .cases hi with
  |none=>rfl
  |some v=>exact yq v n n
def zM(i j:Nat):Builtin.Slice.slicePlaces (i:Int) (j:Int) 1=j - i:=by
 unfold Builtin.Slice.slicePlaces;have h1:(1:Int) > 0:=by omega
 simp only[h1,aal,Int.ediv_one];split<;>omega
def iJ{v:Value}{o:Option Int}{Q:Option Int->Shared->Prop}(p:IsPart v o)(h:Q o s):wpAny (model prog w) A (Builtin.Slice.slicePartIndex v) Q E s:=by
 cases p with
 |none=>exact slicePart_none h
 |int i t=>exact slicePart_int h
def jU{sl:Addr}{vl vu:Value}{lo hi:Option Int}{n:Nat}{Q:Int×Int×Nat->Shared->Prop}(hs:s.heap.IsSliceOf sl vl vu .none)(pl:IsPart vl lo)(pu:IsPart vu hi)
  (h:Q (((aS n 0 lo:Nat):Int),1,aS n n hi - aS n 0 lo) s):wpAny (model prog w) A (Builtin.Slice.sliceApplied (.ref sl) (pure (n:Int))) Q E s:=by
 obtain⟨os,hos,hcs,hds⟩:=id hs;unfold Builtin.Slice.sliceApplied Builtin.Slice.sliceFields;refine gF (gF (aaN hos hds (x:=vl) rfl (gF (aaN hos hds (x:=vu) rfl (gF (aaN hos hds (x:=.none) rfl (uq ?_)))))));refine gF (slicePart_none ?_);show wpAny _ _ (if ((1:Int)==0)=true then _ else _) _ _ s;rw[Yu (by decide)];refine gF (iJ pl (gF (iJ pu (gF (uq ?_)))));show wpAny _ _ (match Builtin.Slice.sliceAdjust lo hi 1 (n:Int)with | (lo,hi)=>pure (lo,(1:Int),Builtin.Slice.slicePlaces lo hi 1)) _ _ s;rw[zL lo hi n];show wpAny _ _ (pure (((aS n 0 lo:Nat):Int),(1:Int),Builtin.Slice.slicePlaces ((aS n 0 lo:Nat):Int) ((aS n n hi:Nat):Int) 1)) _ _ s;rw[zM];exact uq h
def DH(xs:Array Value)(i k:Nat):((List.range k).filterMap λ(m:Nat)=>xs[((i:Int)+(m:Int)*1).toNat]?).toArray=((xs.toList.drop i).take k).toArray:=by
 have e:(λ(m:Nat)=>xs[((i:Int)+(m:Int)*1).toNat]?)=λm=>xs[i+m]?:=by
  funext m
  have:((i:Int)+(m:Int)*1).toNat=i+m:=by omega
  rw[this]
 rw[e];have:=pick_run xs i k;rw[ac6]at this;have e2:((λx=>xs[x]?) ∘ λx=>i+x)=λm=>xs[i+m]?:=rfl;rw[e2]at this;rw[this]
def oQ{t sl:Addr}{items:Array Value}{vl vu:Value}{lo hi:Option Int}{Q:Value->Shared->Prop}(ht:IsTup s.heap t items)(hs:s.heap.IsSliceOf sl vl vu .none)(pl:IsPart vl lo)(pu:IsPart vu hi)
  (hw:¬ (aS items.size 0 lo=0/\aS items.size items.size hi=items.size))
  (h:Q (.ref s.heap.objs.size) { s with heap:=s.heap.push { cls:=.type "tuple",data:=.seq ((items.toList.drop (aS items.size 0 lo)).take (aS items.size items.size hi - aS items.size 0 lo)).toArray }})
  (hsz:items.size<=sizeLine):wpAny (model prog w) A (getItem (.ref t) (.ref sl)) Q E s:=by
 have jC:sizeOk (.seq ((items.toList.drop (aS items.size 0 lo)).take (aS items.size items.size hi - aS items.size 0 lo)).toArray):=by
  show((items.toList.drop (aS items.size 0 lo)).take (aS items.size items.size hi - aS items.size 0 lo)).toArray.size<=sizeLine;rw[G3,aba,abb,abg];omega
 have hj:aS items.size items.size hi<=items.size:=vm _ _ (WE _) hi;obtain⟨os,hos,hcs,hds⟩:=id hs;have Bp:s.TypeIs (.ref sl) "slice" :=⟨os,hos,hcs⟩
 unfold getItem;try with_reducible refine acg ?_
 first|refine gF (uq ?_)|skip
 refine gF (ack ht.typeIs (by decide) ?_);refine gF (aaZ (name:=Str.ofString "__getitem__") ht.typeIs aaA
  (aaU aaA ht.typeIs ab5 ?_ (ab9 _ _)))
 show wpAny _ _ (Builtin.Tuple.tupleItemsOf (.ref t) >>= _) _ _ s;refine gF (tupleItemsOf_ ht ?_);refine gF (abX Bp ?_);rw[JP (by decide)];refine gF (jU hs pl pu ?_);have hno:¬ ((((aS items.size 0 lo:Nat):Int)==0&&(1:Int)==1&&(aS items.size items.size hi - aS items.size 0 lo)==items.size)=true):=by
  intro q;rw[xg,xg]at q;have q1:((aS items.size 0 lo:Nat):Int)=0:=eq_of_beq q.1.1;have q2:aS items.size items.size hi - aS items.size 0 lo=items.size:=eq_of_beq q.2;exact hw ⟨by omega,by omega⟩
 show wpAny _ _ (if (((aS items.size 0 lo:Nat):Int)==0&&(1:Int)==1&&(aS items.size items.size hi - aS items.size 0 lo)==items.size)=true then _ else _) _ _ s;rw[Yu hno,DH];first
  |exact gF (m:=Builtin.Tuple.tupleExact _) (aar (uq ⟨_,rfl,uq h⟩) jC)
  |exact gF (m:=Builtin.Tuple.tupleExact _) (aar (gF (uq (uq ⟨_,rfl,uq h⟩))) jC)
  |exact gF (gF (m:=Builtin.Tuple.tupleExact _) (aar (uq (uq ⟨_,rfl,uq h⟩)) jC))
  |exact gF (gF (m:=Builtin.Tuple.tupleExact _) (aar (uq ⟨_,rfl,uq h⟩) jC))
end
end HT
namespace L2
open PySem PySem.Spec PyProof.Rows
abbrev TO:=St->Hp->(Option Int->Hp->Prop)->Prop
noncomputable def PO(X:Cx)(e:Option Expr)(t:TO):Prop:=
 ∀(pins:List (Addr×Obj)) (s:Shared) (σ:St) (H:Hp) (Q:Option Int->Hp->Prop),Inv X pins σ H s->t σ H Q->
  wpAny (model X.prog X.w) X.A (evalPart e X.env) (λu s'=>∃o H',Inv X pins σ H' s'/\IsPart u o/\Q o H') X.xe s
noncomputable def HG:TO:=λ_ H Q=>Q none H
noncomputable def Qs(t:TE):TO:=λσ H Q=>t σ H λx H1=>∃i,x=.int i/\Q (some i) H1
section
variable{X:Cx}{e:Expr}{te:TE}{lo hi:Option Expr}{tl th:TO}{pos p2:Pos}
def HH:PO X none HG:=by
 intro pins s σ H Q I h;rw[evalPart_none];exact uq ⟨none,H,I,.none,h⟩
def yr(h:PE X e te):PO X (some e) (Qs te):=by
 intro pins s σ H Q I hw;rw[evalPart_some];refine bF (h pins s σ H _ I hw) λu s1 ⟨x,H1,I1,r1,q1⟩=>?_;obtain⟨i,rfl,q⟩:=q1;obtain⟨t,rfl⟩:=r1;exact⟨some i,H1,I1,.int i t,q⟩
noncomputable def lI(X:Cx)(r:V->Option Int->Option Int->Hp->VK->Prop):Prop:=
 ∀(pins:List (Addr×Obj)) (s:Shared) (σ:St) (H:Hp) (x:V) (v vl vu:Value) (lo hi:Option Int) (sl:Addr) (Q:VK),Inv X pins σ H s->RelV x v->s.heap.IsSliceOf sl vl vu .none->IsPart vl lo->IsPart vu hi->r x lo hi H Q->
  ∃T id,typeLookup (.type T) "__getitem__" = pure (some (.builtin id))/\s.TypeIs v T/\wpAny (model X.prog X.w) X.A (getItem v (.ref sl)) (EP X pins σ Q) X.xe s
noncomputable def Xw(r:V->Option Int->Option Int->Hp->VK->Prop)(te:TE)(tl th:TO):TE:=λσ H Q=>te σ H λx H1=>tl σ H1 λl H2=>th σ H2 λu H3=>r x l u H3 Q
def DI{r:V->Option Int->Option Int->Hp->VK->Prop}(hr:lI X r)(he:PE X e te)(hl:PO X lo tl)(hu:PO X hi th):PE X (.Subscript e (.Slice lo hi none p2) pos) (Xw r te tl th):=by
 intro pins s σ H Q I h;refine Subscript_ (bF (he pins s σ H _ I h) λv s1 ⟨x,H1,I1,r1,q1⟩=>?_);refine wpAny_Slice (bF (hl pins s1 σ H1 _ I1 q1) λvl s2 ⟨l,H2,I2,pl,q2⟩=>bF (hu pins s2 σ H2 _ I2 q2) λvu s3 ⟨u,H3,I3,pu,q3⟩=>?_);rw[evalPart_none];refine uq ?_;have I4:Inv X pins σ H3 { s3 with heap:=s3.heap.push { cls:=.type "slice",data:=.fields #[vl,vu,.none]}}:=I3.kept (t':=s3.toks) λb ob q=>FJ _ q;obtain⟨T,id,hT,ht,hg⟩:=hr pins { s3 with heap:=s3.heap.push { cls:=.type "slice",data:=.fields #[vl,vu,.none]}} σ H3 x v vl vu l u s3.heap.objs.size Q I4 r1 (Heap.IsSliceOf.new ..) pl pu q3;show wpAny (model X.prog X.w) X.A (subscriptTail e (.Slice lo hi none p2) v (.ref s3.heap.objs.size)) (EP X pins σ Q) X.xe { s3 with heap:=s3.heap.push { cls:=.type "slice",data:=.fields #[vl,vu,.none]}};exact tail_any (ops:=[.ref s3.heap.objs.size,v]) ht hT hg (by with_unfolding_all rfl)
noncomputable def m8(xs:List V)(lo hi:Option Int):List V:=(xs.drop (HT.aS xs.length 0 lo)).take (HT.aS xs.length xs.length hi - HT.aS xs.length 0 lo)
def oS(xs:List V)(lo hi:Option Int):(m8 xs lo hi).length<=xs.length:=by
 unfold m8;rw[aba,abb];omega
noncomputable def V1(K:PySem.W.Frag):V->Option Int->Option Int->Hp->VK->Prop:=λx lo hi H Q=>∃a xs,x=.ref a/\ee K H a xs/\
 ¬ (HT.aS xs.length 0 lo=0/\HT.aS xs.length xs.length hi=xs.length)/\∀p,H p=none->Q (.ref p) (upd H p (.tup (m8 xs lo hi)))
def KQ:lI X (V1 X.K):=by
 intro pins s σ H x v vl vu lo hi sl Q I rx hs pl pu h;obtain⟨a,xs,rfl,hx,hw,q⟩:=h;cases rx;obtain⟨its,r,ht,hz⟩:=I.tuple hx;have hlen:its.toArray.size=xs.length:=by rw[G3];exact r.length.symm
 refine⟨"tuple",_,PyProof.Rows.slot_tuple_getitem.lookup,ht.typeIs,?_⟩;refine HT.oQ ht hs pl pu (by rw[hlen];exact hw) ?_ (by rw[hlen];exact hz);rw[hlen];refine⟨.ref s.heap.objs.size,_,I.laid (t':=s.toks) (o:=.tup (m8 xs lo hi)) (λb ob q=>FJ _ q) (WE _) ?_,rfl,q _ (I.hok.fresh (WE _))⟩;exact⟨aaa (oS xs lo hi) hz,_,(r.drop (HT.aS xs.length 0 lo)).take (HT.aS xs.length xs.length hi - HT.aS xs.length 0 lo),IsTup.new _ _⟩
noncomputable def Qt(K:PySem.W.Frag):R2:=λx y H Q=>∃a b xs ys,x=.ref a/\y=.ref b/\ee K H a xs/\ee K H b ys/\xs≠[]/\xs.length+ys.length<=sizeLine/\
 (ys=[]->Q (.ref a) H)/\(ys≠[]->∀p,H p=none->Q (.ref p) (upd H p (.tup (xs++ys))))
def Vals.rL{xs:List V}{us:List Value}(r:Vals xs us):us=[]↔xs=[]:=by
 cases r with
 |nil=>simp
 |cons _ _=>simp
def HJ:cV X (binaryOp .Add) (Qt X.K):=by
 intro pins s σ H x y v u Q I rx ry h;obtain⟨a,b,xs,ys,rfl,rfl,ha,hb,hx,hz,q1,q2⟩:=h;cases rx;cases ry;obtain⟨its,r1,p1,_⟩:=I.tuple ha;obtain⟨its2,r2,p2,_⟩:=I.tuple hb;refine HT.HF p1 p2 (λz=>hx (r1.rL.mp z)) (λz=>⟨.ref a,H,I,rfl,q1 (r2.rL.mp z)⟩) (λz=>?_) (by rw[<-r1.length,<-r2.length];exact hz);refine⟨.ref s.heap.objs.size,_,I.laid (t':=s.toks) (o:=.tup (xs++ys)) (λb ob q=>FJ _ q) (WE _) ?_,rfl,q2 (λw=>z (r2.rL.mpr w)) _ (I.hok.fresh (WE _))⟩;exact⟨by rw[Yt];exact hz,_,r1.append r2,IsTup.new _ _⟩
end
noncomputable def dO(n:Nat)(i:Int):Option Nat:=if 0<=i then (if i<n then some i.toNat else none)else if -(n:Int)<=i then some (i+n).toNat else none
noncomputable def bL{α:Type}(xs:List α)(i:Int):Option α:=(dO xs.length i).bind λj=>xs[j]?
def HK{n:Nat}{i:Int}{j:Nat}(h:dO n i=some j):seqIndex? i n=some j/\j<n/\-(n:Int)<=i/\i<n:=by
 unfold dO at h;by_cases h0:0<=i
 .rw[JP h0]at h;by_cases h1:i<n
  .rw[JP h1]at h;have e:i.toNat=j:=qV h;exact⟨by rw[seqIndex_of h0 h1,e],by omega,by omega,h1⟩
  .rw[Yu h1]at h;cases h
 .rw[Yu h0]at h;by_cases h1:-(n:Int)<=i
  .rw[JP h1]at h;have e:(i+n).toNat=j:=qV h;exact⟨by rw[seqIndex_neg (by omega) h1,e],by omega,h1,by omega⟩
  .rw[Yu h1]at h;cases h
def rM{α:Type}{xs:List α}{i:Int}{v:α}(h:bL xs i=some v):∃j,seqIndex? i xs.length=some j/\xs[j]?=some v/\j<xs.length/\-(xs.length:Int)<=i/\i<xs.length:=by
 unfold bL at h;cases e:dO xs.length i with
 |none=>rw[e]at h;cases h
 |some j=>
  rw[e]at h;obtain⟨h1,h2,h3,h4⟩:=HK e;exact⟨j,h1,h,h2,h3,h4⟩
def yt{α:Type}{xs:List α}{j:Nat}{v:α}(h:xs[j]?=some v):bL xs (j:Int)=some v:=by
 have hj:j<xs.length:=(List.getElem?_eq_some_iff.mp h).1;have e:dO xs.length (j:Int)=some j:=by
  unfold dO;rw[JP (by omega),JP (by omega)];simp
 unfold bL;rw[e];exact h
noncomputable def rN(b:Expr):Prop:=∀o i,subscripted b false o i=operate [o,i] (getItem o i)
noncomputable def yu(X:Cx)(r:R2):Prop:=
 ∀(value slice:Expr) (pins:List (Addr×Obj)) (s:Shared) (σ:St) (H:Hp) (x y:V) (v u:Value) (Q:VK),Inv X pins σ H s->RelV x v->RelV y u->r x y H Q->
  subscripted slice false v u=operate [v,u] (getItem v u)->wpAny (model X.prog X.w) X.A (subscriptTail value slice v u) (EP X pins σ Q) X.xe s
noncomputable def m9(X:Cx)(id:String)(r:V->List V->Hp->VK->Prop):Prop:=
 ∀(pins:List (Addr×Obj)) (s:Shared) (σ:St) (H:Hp) (x:V) (xs:List V) (v:Value) (us:List Value) (Q:VK),Inv X pins σ H s->RelV x v->Vals xs us->r x xs H Q->
  wpAny (model X.prog X.w) X.A (call (.builtin id) (v :: us)) (EP X pins σ Q) X.xe s
section
variable{X:Cx}{a b:Expr}{ta tb:TE}{pos:Pos}
def Qu{r:R2}(hr:yu X r)(ha:PE X a ta)(hb:PE X b tb)(hs:rN b):PE X (.Subscript a b pos) (Bh r ta tb):=by
 intro pins s σ H Q I h;exact Subscript_ (zG ha hb I h λv u s2 x y H2 I2 rx ry q=>hr a b pins s2 σ H2 x y v u Q I2 rx ry q (hs _ _))
noncomputable def V2(K:PySem.W.Frag):R2:=λx y H Q=>∃p xs i v,x=.ref p/\y=.int i/\fS K H p xs/\bL xs i=some v/\Q v H
noncomputable def V3(K:PySem.W.Frag):R2:=λx y H Q=>∃p xs i v,x=.ref p/\y=.int i/\ee K H p xs/\bL xs i=some v/\Q v H
noncomputable def V4:R2:=λx y H Q=>∃z i c,x=.str z/\y=.int i/\z.length<=sizeLine/\bL z.cps.toList i=some c/\Q (.str ⟨#[c]⟩) H
def HL:yu X (V2 X.K):=by
 intro value slice pins s σ H x y v u Q I rx ry h hs;obtain⟨p,xs,i,z,rfl,rfl,hq,he,q⟩:=h;cases rx;obtain⟨t,rfl⟩:=ry;obtain⟨its,r,pl,hz⟩:=I.list hq;obtain⟨j,h1,h2,h3,h4,h5⟩:=rM he;obtain⟨w,ew,rw'⟩:=r.get h2;have hl:=r.length;have hn:=lF;have fin:EP X pins σ Q w s:=⟨z,H,I,rw',q⟩
 by_cases h0:0<=i
 .have hj:i.toNat=j:=by
   rw[seqIndex_of h0 h5]at h1;exact qV h1
  exact item_listR pl.isList h0 (by omega) (by rw[hj];simpa using ew) fin hs
 .have hj:(i+(its.toArray.size:Int)).toNat=j:=by
   rw[seqIndex_neg (by omega) h4]at h1;rw[G3,<-hl];exact qV h1
  exact subscriptTail_builtinR (x:=w) pl.isList.typeIs slot_list_getitem.lookup
   (wpAny_getItem_list_neg (Q:=λr s'=>r=w/\EP X pins σ Q r s') pl.isList (by omega) (by rw[G3]<;>omega) (by omega) (by rw[hj];simpa using ew) ⟨rfl,fin⟩) hs
def KR:yu X (V3 X.K):=by
 intro value slice pins s σ H x y v u Q I rx ry h hs;obtain⟨p,xs,i,z,rfl,rfl,hq,he,q⟩:=h;cases rx;obtain⟨t,rfl⟩:=ry;obtain⟨its,r,pl,hz⟩:=I.tuple hq;obtain⟨j,h1,h2,h3,h4,h5⟩:=rM he;obtain⟨w,ew,rw'⟩:=r.get h2;have hl:=r.length;have hn:=lF;have fin:EP X pins σ Q w s:=⟨z,H,I,rw',q⟩
 exact subscriptTail_builtinR (x:=w) pl.typeIs slot_tuple_getitem.lookup
  (getItem_tuple (j:=j) (Q:=λr s'=>r=w/\EP X pins σ Q r s') pl (by omega) (by omega) (by rw[G3,<-hl];exact h1) (by simpa using ew) ⟨rfl,fin⟩) hs
def KS:yu X V4:=by
 intro value slice pins s σ H x y v u Q I rx ry h hs;obtain⟨z,i,c,rfl,rfl,hz,he,q⟩:=h;obtain⟨t,rfl⟩:=rx;obtain⟨t',rfl⟩:=ry;obtain⟨j,h1,h2,h3,h4,h5⟩:=rM he;have hl:z.cps.toList.length=z.length:=by simp[Str.length]
 rw[hl]at h1 h4 h5;have hn:=lF;exact tail_any (abr s z t) slot_str_getitem.lookup (getItem_str (c:=c) (by
  have e1:decide (i < -(2 ^ 63:Int))=false:=aac (by omega);have e2:decide (i≥2 ^ 63)=false:=aac (by omega);rw[e1,e2,acX]) (by rw[h1];simpa using h2) ⟨.str ⟨#[c]⟩,H,I.tok _,⟨_,rfl⟩,q⟩) hs
def vn(lo hi:Option Int)(n:Nat):(sliceBounds lo hi none n).1=((HT.aS n 0 lo:Nat):Int)/\(sliceBounds lo hi none n).2.1=((HT.aS n n hi:Nat):Int)/\(sliceBounds lo hi none n).2.2=1:=by
 refine⟨?_,?_,rfl⟩
 .cases lo with
  |none=>simp[sliceBounds,HT.aS]
  |some i=>
   simp only[sliceBounds,HT.aS,Option.getD_none,show(1:Int) > 0 by decide,aal];by_cases h:i<0
   .simp only[h,aal]<;>omega
   .simp only[h,aaL]<;>omega
 .cases hi with
  |none=>simp[sliceBounds,HT.aS]
  |some i=>
   simp only[sliceBounds,HT.aS,Option.getD_none,show(1:Int) > 0 by decide,aal];by_cases h:i<0
   .simp only[h,aal]<;>omega
   .simp only[h,aaL]<;>omega
def ur(its:List Value)(lo hi:Option Int):slicePick its.toArray lo hi none=((its.drop (HT.aS its.length 0 lo)).take (HT.aS its.length its.length hi - HT.aS its.length 0 lo)).toArray:=by
 obtain⟨h1,h2,h3⟩:=vn lo hi its.toArray.size;unfold slicePick;rw[h1,h2,h3];simp only[sliceRange_one,pick_run,G3]<;>rfl
noncomputable def V5(K:PySem.W.Frag):V->Option Int->Option Int->Hp->VK->Prop:=λx lo hi H Q=>∃a xs,x=.ref a/\fS K H a xs/\∀p,H p=none->Q (.ref p) (upd H p (.lst (m8 xs lo hi)))
def HM:lI X (V5 X.K):=by
 intro pins s σ H x v vl vu lo hi sl Q I rx hs pl pu h;obtain⟨a,xs,rfl,hx,q⟩:=h;cases rx;obtain⟨its,r,ht,hz⟩:=I.list hx;have hlen:=r.length;refine⟨"list",_,slot_list_getitem.lookup,ht.isList.typeIs,?_⟩;refine acE ht.isList hs pl pu .none (by simp) ?_ (by rw[G3]<;>omega);rw[ur,<-hlen];refine⟨.ref s.heap.objs.size,_,I.laid (t':=s.toks) (o:=.lst (m8 xs lo hi)) (λb ob q=>FJ _ q) (WE _) ?_,rfl,q _ (I.hok.fresh (WE _))⟩;exact⟨aaa (oS xs lo hi) hz,_,0,(r.drop (HT.aS xs.length 0 lo)).take (HT.aS xs.length xs.length hi - HT.aS xs.length 0 lo),aae _ rfl⟩
noncomputable def uM:V->Bool
 |.bz=>true
 |.bl _=>true
 |.int _=>true
 |.str _=>true
 |_=>false
def nc:fG X (.builtin "len") (λxs H Q=>∃p ys,xs=[.ref p]/\(fS X.K H p ys\/ee X.K H p ys)/\Q (.int ys.length) H):=by
 intro pins s σ H xs us Q I r h;obtain⟨p,ys,rfl,hq,q⟩:=h;obtain⟨u,rfl,rx⟩:=vals1 r;cases rx;have hn:=lF;rcases hq with hq|hq
 .obtain⟨its,r',pl,hz⟩:=I.list hq;have hlen:=r'.length;exact Calls.call_len_list pl.isList (by simp only[G3]<;>omega) ⟨.int ys.length,H,I.tok _,⟨s.toks+1,by rw[G3,hlen]⟩,q⟩
 .obtain⟨its,r',pl,hz⟩:=I.tuple hq;have hlen:=r'.length;exact len_tuple pl (by simp only[G3]<;>omega) ⟨.int ys.length,H,I.tok _,⟨s.toks+1,by rw[G3,hlen]⟩,q⟩
def vp:fG X (.builtin "len") (λxs H Q=>∃z,xs=[.str z]/\z.length<=sizeLine/\Q (.int z.length) H):=by
 intro pins s σ H xs us Q I r h;obtain⟨z,rfl,hz,q⟩:=h;obtain⟨u,rfl,t,rfl⟩:=vals1 r;have hn:=lF;exact abh (by omega) ⟨.int z.length,H,I.tok _,⟨_,rfl⟩,q⟩
def mV:fG X (.type "tuple") (λxs H Q=>∃p ys,xs=[.ref p]/\((fS X.K H p ys/\∀l,H l=none->Q (.ref l) (upd H l (.tup ys)))\/(ee X.K H p ys/\Q (.ref p) H))):=by
 intro pins s σ H xs us Q I r h;obtain⟨p,ys,rfl,h⟩:=h;obtain⟨u,rfl,rx⟩:=vals1 r;cases rx;rcases h with ⟨hq,q⟩|⟨hq,q⟩
 .obtain⟨its,r',pl,hz⟩:=I.list hq;have hlen:=r'.length;refine call_tuple_list pl.isList (λh' kp=>?_) (by simp only[G3]<;>omega);have I1:Inv X pins σ H { s with heap:=h' }:=I.kept (t':=s.toks) kp;have I2:Inv X pins σ (upd H h'.objs.size (.tup ys)) { s with heap:=h'.push { cls:=.type "tuple",data:=.seq its.toArray }}:=
   I1.laid (t':=s.toks) (λb o e=>FJ _ e) (WE _) (show eG X.prog X.w _ _ _ (.tup ys)from ⟨hz,its,r',IsTup.new _ _⟩)
  exact⟨.ref h'.objs.size,_,I2,rfl,q _ (I1.hok.fresh (WE _))⟩
 .obtain⟨its,r',pl,hz⟩:=I.tuple hq;exact call_tuple_same pl ⟨.ref p,H,I,rfl,q⟩
noncomputable def Bq(K:PySem.W.Frag)(T:String)(x:V)(H:Hp):Prop:=match x with
 |.str _=>T = "str"
 |.int _=>T = "int"
 |.ref p=>(T = "list" /\∃xs,fS K H p xs)\/(T = "tuple" /\∃o,K.lookup p=some o/\o.cls=.type "tuple" /\o.dict=none)\/
   (T = "dict" /\((∃kvs,H p=some (.dK kvs))\/∃kvs,H p=some (.dT kvs)))\/(T = "set" /\∃S n,H p=some (.set S n))
 |_=>False
def Br{pins:List (Addr×Obj)}{σ:St}{H:Hp}{s:Shared}{T:String}{x:V}{v:Value}(I:Inv X pins σ H s)(r:RelV x v)(ty:Bq X.K T x H) :
  s.TypeIs v T/\∀a,v=.ref a->∃ob,s.heap.get? a=some ob/\ob.dict=none:=by
 cases x with
 |str z=>
  obtain⟨t,rfl⟩:=r;cases (show T = "str" from ty);exact⟨abr s z t,λ_ e=>nomatch e⟩
 |int i=>
  obtain⟨t,rfl⟩:=r;cases (show T = "int" from ty);exact⟨acr s i t,λ_ e=>nomatch e⟩
 |ref p=>
  cases r;rcases ty with ⟨rfl,xs,hq⟩|⟨rfl,o,hk,hc,hd⟩|⟨rfl,hk⟩|⟨rfl,S,n,hk⟩
  .obtain⟨its,_,pl,_⟩:=I.list hq;refine⟨pl.isList.typeIs,λa e=>?_⟩;cases e;obtain⟨o,n,e,c,hd,_⟩:=pl;exact⟨o,e,hd⟩
  .refine⟨⟨o,I.gK p o hk,hc⟩,λa e=>?_⟩;cases e;exact⟨o,I.gK _ o hk,hd⟩
  .have z:∃o,s.heap.get? p=some o/\o.ExactDict:=by
    rcases hk with ⟨kvs,hk⟩|⟨kvs,hk⟩
    .obtain⟨_,_,_,_,o,_,_,e,ex,_⟩:=I.hok p _ hk;exact⟨o,e,ex⟩
    .obtain⟨_,_,_,_,o,_,_,e,ex,_⟩:=I.hok p _ hk;exact⟨o,e,ex⟩
   obtain⟨o,e,ex⟩:=z;refine⟨⟨o,e,ex.1⟩,λa e2=>?_⟩;cases e2;exact⟨o,e,ex.2.1⟩
  .obtain⟨o,_,_,_,e,ex,_⟩:=I.hok p _ hk;refine⟨⟨o,e,ex.1⟩,λa e2=>?_⟩;cases e2;exact⟨o,e,ex.2.1⟩
 |_=>exact False.elim ty
noncomputable def V6(K:PySem.W.Frag)(T:String)(r:V->List V->Hp->VK->Prop)(to:TE):TE:=λσ H Q=>to σ H λx H1=>Bq K T x H1/\r x [] H1 Q
noncomputable def Xx(K:PySem.W.Frag)(T:String)(r:V->List V->Hp->VK->Prop)(to:TE)(t:TA):TE:=λσ H Q=>to σ H λx H1=>Bq K T x H1/\t σ H1 λxs H2=>r x xs H2 Q
variable{o e:Expr}{es:List Expr}{to:TE}{t:TA}{name:Str}{apos cpos:Pos}{T id:String}{r:V->List V->Hp->VK->Prop}
def KU (pa:PlainAttrs T) (slot:Slot T name id) (hty:typeOf (.builtin id)=pure (.type "method_descriptor")) (hm:m9 X id r) (ho:PE X o to)
  (hbase:attributeBase o name X.env (eval o X.env)=eval o X.env:=by rfl) (hline:(apos.endLine==cpos.line)=true:=by rfl):PE X (.Call (.Attribute o name apos) [] [] cpos) (V6 X.K T r to):=by
 intro pins s σ H Q I h;refine wpAny_Call_method0_late hbase hline (bF (ho pins s σ H _ I h) λv s1 ⟨x,H1,I1,r1,ty,q1⟩=>?_);obtain⟨h1,h2⟩:=Br I1 r1 ty;exact⟨T,id,pa,slot,hty,h1,h2,Calls.callWith_builtin rfl (PySem.evalArgs_none (hm pins s1 σ H1 x [] v [] Q I1 r1 .nil q1))⟩
def Gi (pa:PlainAttrs T) (slot:Slot T name id) (hty:typeOf (.builtin id)=pure (.type "method_descriptor")) (hm:m9 X id r) (ho:PE X o to) (ha:PA X (e :: es) t)
  (hbase:attributeBase o name X.env (eval o X.env)=eval o X.env:=by rfl)
  (hfew:((backTo cpos (starEach (e :: es) X.env)).all (λx=>!x.1)&&(backToKw cpos (keywordEach [] X.env)).all (λx=>x.1.isSome)
   &&decide ((e :: es).length+([]:List Keyword).length+(if ([]:List Keyword).isEmpty then 0 else 1)<30))=true:=by rfl)
  (hline:(apos.endLine==cpos.line)=true:=by rfl) (hs:starEach (e :: es) X.env=(false,eval e X.env) :: starEach es X.env:=by rfl) (hplain:(backTo cpos (starEach es X.env)).any (·.1)=false:=by rfl) :
  PE X (.Call (.Attribute o name apos) (e :: es) [] cpos) (Xx X.K T r to t):=by
 intro pins s σ H Q I h;refine wpAny_Call_method_late hbase hfew hline rfl (bF (ho pins s σ H _ I h) λv s1 ⟨x,H1,I1,r1,ty,q1⟩=>?_);obtain⟨h1,h2⟩:=Br I1 r1 ty;refine⟨T,id,pa,slot,hty,h1,h2,?_⟩;have hA:=ha cpos pins s1 σ H1 _ I1 q1;rw[hs]at hA ⊢;refine Calls.callWith_builtin (by show(false || (backTo cpos (starEach es X.env)).any (·.1))=false;rw[hplain]<;>rfl) (Calls.evalArgs_plain ?_);exact bF hA λus s2 ⟨vs,H2,I2,r2,q2⟩=>hm pins s2 σ H2 x vs v us Q I2 r1 r2 q2
end
noncomputable def KW(X:Cx)(id:String)(r:V->List V->Hp->VK->Prop):Prop:=
 ∀(pins:List (Addr×Obj)) (s:Shared) (σ:St) (H:Hp) (x:V) (xs:List V) (v:Value) (us:List Value) (Q:VK),Inv X pins σ H s->RelV x v->Vals xs us->r x xs H Q->
  wpAny (model X.prog X.w) X.A (call (.builtin id) (v :: us)) (EP X pins σ Q) X.xe s
def Vals.one:∀{x:V}{us:List Value},Vals [x] us->∃u,us=[u]/\RelV x u
 |_,_,.cons r .nil=>⟨_,rfl,r⟩
def Vals.zero:∀{us:List Value},Vals [] us->us=[]
 |_,.nil=>rfl
theorem Vals.dropLast{xs:List V}{us:List Value}(h:Vals xs us):Vals xs.dropLast us.dropLast:=by
 induction h with
 |nil=>exact .nil
 |cons r t ih=>
  cases t with
  |nil=>exact .nil
  |cons q t'=>exact .cons r ih
theorem Vals.reverse{xs:List V}{us:List Value}(h:Vals xs us):Vals xs.reverse us.reverse:=by
 induction h with
 |nil=>exact .nil
 |cons r t ih=>rw[aak,aak];exact Vals.append ih (.cons r .nil)
theorem Vals.rep{xs:List V}{us:List Value}(h:Vals xs us):∀k:Nat,Vals (List.replicate k xs).flatten (List.replicate k us).flatten
 |0=>.nil
 |k+1=>by
  rw[Y5,Y5,aaI,aaI];exact Vals.append h (Vals.rep h k)
def zN{α:Type}(l:List α):l.eraseIdx (l.length - 1)=l.dropLast:=by
 induction l with
 |nil=>rfl
 |cons a r ih=>
  cases r with
  |nil=>rfl
  |cons b r=>
   have e:(a :: b :: r).length - 1=((b :: r).length - 1)+1:=by
    have h1:(a :: b :: r).length=r.length+2:=rfl;have h2:(b :: r).length=r.length+1:=rfl;omega
   rw[e,List.eraseIdx_cons_succ,ih];all_goals rfl
theorem foldl_rep(its:List Value):∀(k:Nat) (acc:List Value),
  List.foldl (λx1 x2=>x1++x2) acc.toArray (List.replicate k its.toArray)=(acc++(List.replicate k its).flatten).toArray
 |0,acc=>by simp
 |k+1,acc=>by
  have e:acc.toArray++its.toArray=(acc++its).toArray:=by simp
  have e2:(acc++its)++(List.replicate k its).flatten=acc++(List.replicate (k+1) its).flatten:=by
   rw[Y5,aaI,aaz]
  rw[<-e2,<-foldl_rep its k (acc++its),<-e,Y5,aaF]
section
variable{X:Cx}{pins:List (Addr×Obj)}{σ:St}{H:Hp}{s:Shared}{l:Addr}{xs ys:List V}
def Inv.DJ{its its':List Value}{n:Nat}{f:Array Value->Array Value}{t':Nat}(I:Inv X pins σ H s)(hH:H l=some (.lst xs))
  (e:s.heap.get? l=some { cls:=.type "list",data:=.seq its.toArray n }) (hf:f its.toArray=its'.toArray) (hv:Vals ys its') (hz:ys.length<=sizeLine) :
  Inv X pins σ (upd H l (.lst ys)) { s with heap:=s.heap.update l (Obj.mapSeq f),toks:=t' }:=by
 have q:=PySem.IsL.update e f;rw[hf]at q;refine I.write (x:=l) (e:=l) (by rw[hH];exact trivial) (.inl rfl) (λb' u hb hu=>(abk s.heap (Obj.mapSeq f) (abl hb)).trans hu) ⟨_,q⟩ ?_;exact⟨hz,its',_,hv,q⟩
def Inv.DK{its:List Value}{t':Nat}(I:Inv X pins σ H s)(hv:Vals ys its)(hz:ys.length<=sizeLine) :
  Inv X pins σ (upd H s.heap.objs.size (.lst ys)) { s with heap:=s.heap.push { cls:=.type "list",data:=.seq its.toArray },toks:=t' }:=
 I.laid (λ_ _ q=>FJ _ q) (WE _) ⟨hz,its,0,hv,aae _ rfl⟩
theorem Inv.fresh(I:Inv X pins σ H s):H s.heap.objs.size=none:=I.hok.fresh (WE _)
def Inv.pJ (I:Inv X pins σ H s) (hH:H l=some (.lst xs)):xs.length<=sizeLine/\∃(its:List Value) (n:Nat),Vals xs its/\xs.length=its.length/\s.heap.get? l=some { cls:=.type "list",data:=.seq its.toArray n }:=by
 obtain⟨z,its,n,r,e⟩:=I.hok l _ hH;exact⟨z,its,n,r,r.length,e⟩
def vq{n:Nat}(h:n<=sizeLine):Builtin.List.listTooLong n=false:=by
 unfold Builtin.List.listTooLong;exact aac (by omega)
end
section
variable{X:Cx}
noncomputable def HN:V->List V->Hp->VK->Prop:=λx vs H Q=>∃l xs y,x=.ref l/\vs=[y]/\H l=some (.lst xs)/\xs.length<sizeLine/\Q .bz (upd H l (.lst (xs++[y])))
def tM:KW X "list.append" HN:=by
 intro pins s σ H x vs v us Q I rx rv h;obtain⟨l,xs,y,rfl,rfl,hH,hz,q⟩:=h;cases rx;obtain⟨u,rfl,ru⟩:=rv.one;obtain⟨z,its,n,r,hl,e⟩:=I.pJ hH;refine aaX F.slot_list_append ⟨_,e,rfl⟩ F.entry_list_append (F.args_list_append_2 _ _) (PySem.list_append l its.toArray n u (by rw[G3];omega)) ⟨e,?_⟩;refine⟨.bz,_,I.DJ (its':=its++[u]) hH e (by simp) (r.append (.cons ru .nil)) ?_,rfl,q⟩;rw[Yt,aa6];omega
noncomputable def HQ:V->List V->Hp->VK->Prop:=λx vs H Q=>∃l b xs zs,x=.ref l/\vs=[.ref b]/\H l=some (.lst xs)/\H b=some (.lst zs)/\xs.length+zs.length<=sizeLine/\Q .bz (upd H l (.lst (xs++zs)))
def Bs:KW X "list.extend" HQ:=by
 intro pins s σ H x vs v us Q I rx rv h;obtain⟨l,b,xs,zs,rfl,rfl,hH,hB,hz,q⟩:=h;cases rx;obtain⟨u,rfl,ru⟩:=rv.one;cases ru;obtain⟨z,its,n,r,hl,e⟩:=I.pJ hH;obtain⟨z2,its2,n2,r2,hl2,e2⟩:=I.pJ hB;have hsz:its.toArray.size+its2.toArray.size<=sizeLine:=by rw[G3,G3];omega
 have zO:¬ (!its.toArray.isEmpty&&Builtin.List.listTooLong (its.toArray.size+its2.toArray.size))=true:=by
  rw[vq hsz,Bool.and_false];exact aaM
 refine aaX F.slot_list_extend ⟨_,e,rfl⟩ F.entry_list_extend (F.args_list_extend_2 _ _)
  (AutoSeq1.list_extend_list_list_0 l its.toArray n b its2.toArray n2 zO (by rw[G3];omega) (by omega)) ⟨e,e2,?_⟩
 refine⟨.bz,_,I.DJ (its':=its++its2) hH e (by simp) (r.append r2) ?_,rfl,q⟩;rw[Yt];omega
noncomputable def V7:V->List V->Hp->VK->Prop:=λx vs H Q=>∃l xs y,x=.ref l/\vs=[]/\H l=some (.lst xs)/\xs[xs.length - 1]?=some y/\Q y (upd H l (.lst xs.dropLast))
def KY:KW X "list.pop" V7:=by
 intro pins s σ H x vs v us Q I rx rv h;obtain⟨l,xs,y,rfl,rfl,hH,hy,q⟩:=h;cases rx;have Xy:=rv.zero;subst Xy;obtain⟨z,its,n,r,hl,e⟩:=I.pJ hH;obtain⟨u,hu,ru⟩:=r.get hy;have hy':its.toArray[its.toArray.size - 1]?=some u:=by
  show its.toArray[its.length - 1]?=some u;rw[<-Array.getElem?_toList,<-hl];exact hu
 refine aaX F.slot_list_pop ⟨_,e,rfl⟩ F.entry_list_pop (F.args_list_pop_1 _) (MeetsSeq.list_pop_last l its.toArray n u hy' (by rw[G3];omega)) ⟨e,?_⟩;refine⟨y,_,I.DJ (its':=its.dropLast) hH e ?_ r.dropLast ?_,ru,q⟩
 .show its.toArray.eraseIdxIfInBounds (its.toArray.size - 1)=its.dropLast.toArray;rw[G3,List.eraseIdxIfInBounds_toArray,zN]
 .rw[List.length_dropLast];omega
noncomputable def V8:R2:=λx y H Q=>∃l b xs zs,x=.ref l/\y=.ref b/\H l=some (.lst xs)/\H b=some (.lst zs)/\xs.length+zs.length<=sizeLine/\∀p,H p=none->Q (.ref p) (upd H p (.lst (xs++zs)))
def KZ:cV X (binaryOp .Add) V8:=by
 intro pins s σ H x y v u Q I rx ry h;obtain⟨l,b,xs,zs,rfl,rfl,hH,hB,hz,q⟩:=h;cases rx;cases ry;obtain⟨z,its,n,r,hl,e⟩:=I.pJ hH;obtain⟨z2,its2,n2,r2,hl2,e2⟩:=I.pJ hB;refine PySem.P.add_list e e2 ?_ (by rw[G3,G3];omega);have ea:its.toArray++its2.toArray=(its++its2).toArray:=by simp
 rw[ea];exact⟨.ref _,_,I.DK (t':=s.toks) (r.append r2) (by rw[Yt];omega),rfl,q _ I.fresh⟩
noncomputable def V9:R2:=λx y H Q=>∃l k xs,x=.ref l/\y=.int k/\H l=some (.lst xs)/\-(2 ^ 63)<=k/\k<2 ^ 63/\xs.length*k.toNat<=sizeLine/\
 ∀p,H p=none->Q (.ref p) (upd H p (.lst (List.replicate k.toNat xs).flatten))
def len_rep{α:Type}(xs:List α)(k:Nat):(List.replicate k xs).flatten.length=k*xs.length:=by
 induction k with
 |zero=>simp
 |succ k ih=>rw[Y5,aaI,Yt,ih,abY,abm]
def K0:cV X (binaryOp .Mult) V9:=by
 intro pins s σ H x y v u Q I rx ry h;obtain⟨l,k,xs,rfl,rfl,hH,h1,h2,hz,q⟩:=h;cases rx;obtain⟨t,rfl⟩:=ry;obtain⟨z,its,n,r,hl,e⟩:=I.pJ hH;have hlen:its.toArray.size*k.toNat<=sizeLine:=by rw[G3,<-hl];exact hz
 have hcap:¬ its.toArray.size*k.toNat > (2 ^ 63 - 1) / 8:=by
  have:(sizeLine:Nat)<=(2 ^ 63 - 1) / 8:=by decide
  omega
 have hfit:¬ (!Builtin.List.listFitsIndex k)=true:=by
  rw[fitsIndex_both h1 h2];exact aaM
 have zO:¬ Builtin.List.listTooLong (its.toArray.size*k.toNat)=true:=by
  rw[vq hlen];exact aaM
 have hnew:List.foldl (λx1 x2=>x1++x2) #[] (List.replicate (if its.toArray.isEmpty=true then 0 else k.toNat) its.toArray)=(List.replicate k.toNat its).flatten.toArray:=by
  have f0:∀m:Nat,List.foldl (λx1 x2=>x1++x2) #[] (List.replicate m its.toArray)=(List.replicate m its).flatten.toArray:=λm=>by
   have:=foldl_rep its m [];rw[abx]at this;exact this
  rw[f0];cases its with
  |nil=>simp
  |cons a r'=>rw[Yu (by simp)]
 refine acs (T:="list") (U:="int") (by decide) ⟨_,e,rfl⟩ (λs'=>acr s' k t) noFill_list_mul F.fills_int_mul F.slot_int_rmul repeat_list F.slot_int_index.lookup
  (aaX F.slot_int_rmul (acr s k t) F.entry_int_rmul (F.args_int_rmul_2 _ _) (int___rmul___int_list k t l its.toArray n)
   ⟨e,rfl,⟨_,e,rfl⟩,aaX F.slot_list_mul ⟨_,e,rfl⟩ F.entry_list_mul (F.args_list_mul_2 _ _) (AutoListH.list___mul___list_int_3 l its.toArray n k t hfit hcap zO) ⟨e,?_⟩⟩)
 rw[hnew];exact⟨.ref _,_,I.DK (t':=s.toks) (r.rep k.toNat) (by rw[len_rep,Nat.mul_comm];exact hz),rfl,q _ I.fresh⟩
end
end L2
namespace TU
open PySem PySem.W PySem.Calls PyProof.Rows
def qj{P:Params}{h:Heap}:∀(ns:List Int) (vs:List Value),WellAll P h vs (ns.map WData.int)->IntsAre vs ns:=by
 intro ns;induction ns with
 |nil=>
  intro vs w;rw[abZ]at w;cases w;exact .nil
 |cons n ns ih=>
  intro vs w;rw[Uz]at w;cases w with
  |cons a b=>
   cases a;exact .cons _ _ (ih _ b)
def Bt{l:OpenLaw}{n:Nat}(hn:l.most=some n){P:Params}{h:Heap}{args:List WData}{vals:List Value}
  (hpre:l.row.toRowW.claim.pre args=true) (hwl:WellAll P h vals args) :
  ∃a vs ns,vals=[Value.ref a]/\args=[WData.list (ns.map WData.int)]/\h.get? a=some { cls:=.type "list",data:=.seq vs.toArray }/\IntsAre vs ns/\ns.length<=n:=by
 have hsh:WShape.hasAll [] args [.list .int]=true:=(pre_splitW hpre).1;have hc:l.pre.holds [] { args:=args }=true:=(pre_splitW hpre).2;obtain⟨d,r,rfl,h1,h2⟩:=hasAllW_cons hsh;obtain rfl:=hasAllW_nil h2;obtain⟨xs,rfl,h3⟩:=hasW_list h1;obtain⟨ns,rfl⟩:=items_int h3;have hlen:ns.length<=n:=by
  unfold OpenLaw.pre at hc;have h4:(WTm.not (.lt (.lit (.int (n:Int))) (.len (.arg 0)))).holds [] { args:=[.list (ns.map .int)]}=true:=by
   have h4:=(holds_andW hc).1;rw[hn]at h4;exact h4
  have h5:=condW_of h4 (w_not (w_lt w_lit (w_len_list (w_arg rfl))));rw[aaw]at h5;refine Nat.le_of_not_lt λq=>?_;have q':(n:Int)<((ns.length:Nat):Int):=by omega
  first
   | (rw[aaj q']at h5;exact absurd h5 (by decide))
   | (simp at h5;omega)
 cases hwl with
 |cons w1 w2=>
  cases w2;cases w1 with
  |list ho hall=>exact⟨_,_,ns,rfl,rfl,ho,qj ns _ hall,hlen⟩
def Bu(l:OpenLaw)(args:List WData):l.row.toRowW.claim.post args (.bool true) args=true:=
 postW_of (r:=l.row.toRowW) (X:=(true==true))
  (show WShape.has [] (.bool true) .bool=true by first|rfl|decide|simp[WShape.has,WShape.arms,WShape.armsAll])
  (show(WTm.eq .res (.lit (.bool true))).value [] { args:=args,res:=some (.bool true),after:=args }=some (.bool (true==true))from w_eq_bool (w_res rfl) w_lit) rfl
def xS{l:OpenLaw}{n:Nat}{q:Program}{loose:List Str}{XP:(Str->Option Value)->Heap->Prop}{YP:World->Heap->Prop}{d:DefRec}
  (hn:l.most=some n) (hdf:d.params.defaults=[])
  (call:∀(w:World) (s₀ s₁:Shared) (mg mb:Str->Option Value) (fa:Addr) (o:Obj) (pm cd doc:Value) (a:Addr) (vs:List Value) (ns:List Int),
   Ground q loose [] XP w s₀ mg mb s₁.heap->YP w s₁.heap->
   s₁.heap.get? fa=some o->o.data=.func (docDef d.name d.params d.body d.scope pm cd doc)->s₁.heap.CodeRec cd d.name->mg d.name=some (.ref fa)->
   s₁.heap.get? a=some { cls:=.type "list",data:=.seq vs.toArray }->IntsAre vs ns->ns.length<=n->s₁.gens = #[]->
   codeAny (model l.prog w) callerA (.call (.ref fa) ⟨[.ref a],[]⟩) (λr s'=>r=.ok (.ret (.bool true))/\OldK s₁.heap s'.heap/\s'.os=s₁.os/\AllBare s'.gens) s₁) :
  WalkO q loose XP YP l.row.toRowW d [] (λf vs=>PySem.call f vs):=by
 intro w s₀ s₁ mg mb G Y fa o pm cd doc dV kV ho hd hcd hD hmg hg args vals as hpre hlay hrd hwl hlo;obtain rfl:dV=.none:=Dflts.none hD hdf;obtain rfl:kV=.none:=Dflts.noKw hD;obtain⟨a,vs,ns,rfl,rfl,hobj,hints,hlen⟩:=Bt hn hpre hwl;refine enter_call (codeAny_mono (call w s₀ s₁ mg mb fa o pm cd doc a vs ns G Y ho (fd_plain hd) hcd hmg hobj hints hlen hg) λr s' hq=>?_);obtain⟨rfl,h2,h3,h4⟩:=hq;exact⟨.inl ⟨.bool true,.bool true,[],rfl,λ_=>rfl,.bool true,Bu l _,λ_=>⟨List.Pairwise.nil,λ_ hm=>(nomatch hm)⟩⟩,h2,h3,h4⟩
end TU
namespace L2
open PySem PySem.Spec PyProof.Rows
theorem tN:∀{vs:List Value}{ns:List Int},IntsAre vs ns->Vals (ns.map V.int) vs
 |_,_,.nil=>.nil
 |_,_,.cons n t h=>.cons ⟨t,rfl⟩ (tN h)
noncomputable def rO(H:Hp):Prop:=∀b,H b=none\/∃o xs,H b=some (.bU o (.lst xs))
def DL{P:Program}{w:World}{K:PySem.W.Frag}{mg mb:Str->Option Value}{CX:mU}{k:Nat}{fa a:Addr}{fd:FuncData}{x:Str}{sp:Sp}{s₁:Shared}{vs:List Value}{ns:List Int}
  (KX:K.In s₁.heap) (hns:s₁.heap.Ns mainGlobals mg) (hb:s₁.heap.Ns builtinsNs mb) (K1:∀x:Str,x≠"__name__" ->mb x=bootBuiltins x) (hlim:s₁.heap.NoLimit) (hg:s₁.gens = #[])
  (ha:s₁.heap.get? a=some { cls:=.type "list",data:=.seq vs.toArray }) (hi:IntsAre vs ns) (hl:ns.length<=sizeLine) (hr:g9 k callerA)
  (F:∀base:Heap,K.In base->base.Ns mainGlobals mg->iW P w K mg base CX k fa fd [x] sp) (hbind:∀(s:Shared) (u:Value),BindsTo s fd ⟨[u],[]⟩ [(x,u)])
  (iu:∀H:Hp,rO H->fS K H a (ns.map V.int)->sp [.ref a] H (λv _=>v=.bl true) λ_ _ _=>False)
  (Bv:∀H e s',CX [] H s₁ (λ_ _ _=>False) e s'->False) :
  codeAny (model P w) callerA (.call (.ref fa) ⟨[.ref a],[]⟩) (λr s'=>r=.ok (.ret (.bool true))/\OldK s₁.heap s'.heap/\s'.os=s₁.os/\AllBare s'.gens) s₁:=by
 have rv:=tN hi;have Wa:=hi.length;have core:∀H:Hp,rO H->fS K H a (ns.map V.int)->gn P w H s₁.heap->(∀b,H b≠none->b=a)->(H a≠none->K.lookup a=none)->
   codeAny (model P w) callerA (.call (.ref fa) ⟨[.ref a],[]⟩) (λr s'=>r=.ok (.ret (.bool true))/\OldK s₁.heap s'.heap/\s'.os=s₁.os/\AllBare s'.gens) s₁:=by
  intro H hO hS hok hA hK;have yv:∀{b:Addr} {o:Obj},s₁.heap.get? b=some o->H b=none->(lY s₁.heap H).get? b=some o:=λe n=>Dp e n;have Bo:∀{b:Addr} {o:Obj} {es:Array DictEntry} {ep:Nat},s₁.heap.get? b=some o->o.data=.dict es ep->H b=none:=λ{b o es ep} e d=>by
   cases q:H b with
   |none=>rfl
   |some u=>
    have e':b=a:=hA b (by rw[q];simp);subst e';rw[ha]at e;cases e;have d':Data.seq vs.toArray _=Data.dict es ep:=d;cases d'
  have Gj:∀{b:Addr} {m:Str->Option Value},s₁.heap.Ns b m->(lY s₁.heap H).Ns b m:=λ{b m} ⟨o,es,ep,e,d,r⟩=>⟨o,es,ep,yv e (Bo e d),d,r⟩
  have TV:K.In (lY s₁.heap H):=λb o e=>yv (KX b o e) (by
   cases q:H b with
   |none=>rfl
   |some u=>
    have e':b=a:=hA b (by rw[q];simp);subst e';rw[hK (by rw[q];simp)]at e;cases e)
  have hM:Mod K mg (lY s₁.heap H):=⟨TV,Gj hns,⟨mb,Gj hb,K1⟩,let ⟨mc,h1,h2⟩:=hlim;⟨mc,Gj h1,h2⟩⟩
  have e0:zK P w K mg (lY s₁.heap H) callerA [] s₁ H:=⟨rfl,hM,λb o e=>Ht e,Nat.le_of_eq (A7 _ _),trivial,λb hb=>absurd (show b∈([]:List Addr)from hb) (by simp),hok,.of_eq hg⟩
  refine codeAny_mono ((F _ TV (Gj hns)).run callerA [] s₁ H ⟨[.ref a],[]⟩ [.ref a] [.ref a] _ _ hr e0 (hbind s₁ (.ref a)) (.cons rfl .nil) (iu H hO hS)) λr s' h=>?_;cases r with
  |error e=>exact(Bv H e s' h).elim
  |ok fl=>
   cases fl with
   |next=>exact False.elim h
   |brk=>exact False.elim h
   |cont=>exact False.elim h
   |ret u=>
    obtain⟨v,H',os,bare,un,Wb,r',q⟩:=h;have q':v=.bl true:=q;subst q';obtain rfl:u=Value.bool true:=r';refine⟨rfl,OldK.of_keep λb o e=>?_,os,bare⟩;cases q:H b with
    |none=>exact un.keep b o e q (by intro z;exact absurd (show b∈([]:List Addr)from z) (by simp)) (by simp)
    |some u=>
     rcases hO b with z|⟨ob,xs,z⟩
     .rw[q]at z;cases z
     .have z2:=un.lW b ob _ z;obtain⟨e1,_⟩:=hok b _ z;obtain⟨e2,_⟩:=Wb b _ z2;rw[e]at e1;cases e1;exact e2
 cases hk:K.lookup a with
 |some o=>
  have e:=KX a o hk;rw[ha]at e;cases e;refine core (λ_=>none) (λ_=>.inl rfl) (.inr ⟨_,vs.toArray,_,hk,rfl,rfl,rfl,by rw[G3,Wa];exact hl,by simpa using rv⟩) (λb u z=>by have z':(none:Option HO)=some u:=z;cases z') (λb z=>absurd rfl z) λz=>absurd rfl z
 |none=>
  refine core (λb=>if b=a then some (.bU { cls:=.type "list",data:=.seq vs.toArray } (.lst (ns.map V.int)))else none) (λb=>?_) (.inl (.inr ⟨{ cls:=.type "list",data:=.seq vs.toArray },JP rfl⟩)) (λb u z=>?_) (λb z=>?_) λ_=>hk
  .by_cases hb:b=a
   .exact .inr ⟨_,_,JP hb⟩
   .exact .inl (Yu hb)
  .by_cases hb:b=a
   .have z':=(JP hb).symm.trans z;cases z';subst hb;exact⟨ha,by rw[aaw];exact hl,vs,_,rv,ha⟩
   .have z':=(Yu hb).symm.trans z;cases z'
  .by_cases hb:b=a
   .exact hb
   .exact absurd (Yu hb) z
def HS{l:PySem.W.OpenLaw}{n k:Nat}{q:Program}{loose:List Str}{XP:(Str->Option Value)->Heap->Prop}{YP:World->Heap->Prop}{d:DefRec}{K:Params->PySem.W.Frag}{CX:World->mU}{sp:World->Sp}{x:Str}
  (hn:l.most=some n) (hn2:n<=sizeLine) (hdf:d.params.defaults=[]) (hr:g9 k callerA)
  (hY:∀(w:World) (h:Heap),YP w h->(K w.params).In h)
  (F:∀(w:World) (mg:Str->Option Value) (fa:Addr) (h:Heap),(K w.params).In h->h.Ns mainGlobals mg->mg d.name=some (.ref fa)->
   ∃fd:FuncData,(∀(s:Shared) (u:Value),BindsTo s fd ⟨[u],[]⟩ [(x,u)])/\
    ∀base:Heap,(K w.params).In base->base.Ns mainGlobals mg->iW l.prog w (K w.params) mg base (CX w) k fa fd [x] (sp w))
  (iu:∀(w:World) (H:Hp) (a:Addr) (ns:List Int),ns.length<=n->rO H->fS (K w.params) H a (ns.map V.int)->sp w [.ref a] H (λv _=>v=.bl true) λ_ _ _=>False)
  (Bv:∀(w:World) (H:Hp) (s:Shared) (e:Value) (s':Shared),CX w [] H s (λ_ _ _=>False) e s'->False) :
  PySem.W.WalkO q loose XP YP l.row.toRowW d [] (λf vs=>PySem.call f vs):=by
 refine TU.xS hn hdf λw s₀ s₁ mg mb fa o pm cd doc a vs ns G Y ho hd hcd hmg hobj hints hlen hg=>?_;have KX:=hY w _ Y;obtain⟨fd,hb,hF⟩:=F w mg fa _ KX G.T.g hmg;exact DL KX G.T.g G.T.b G.T.builtins G.T.nolimit hg hobj hints (aaa hlen hn2) hr hF hb (λH hO hS=>iu w H a ns hlen hO hS) λH e s'=>Bv w H s₁ e s'
def DM{l:PySem.W.OpenLaw}{n k:Nat}{q:Program}{loose:List Str}{XP:(Str->Option Value)->Heap->Prop}{YP:World->Heap->Prop}{d:DefRec}{K:Params->PySem.W.Frag}{CX:mU}{sp:PySem.W.Frag->Sp}{x:Str}
  (hn:l.most=some n) (hn2:n<=sizeLine) (hdf:d.params.defaults=[]) (hr:g9 k callerA)
  (hY:∀(w:World) (h:Heap),YP w h->(K w.params).In h)
  (F:∀(w:World) (mg:Str->Option Value) (fa:Addr) (h:Heap),(K w.params).In h->h.Ns mainGlobals mg->mg d.name=some (.ref fa)->
   ∃fd:FuncData,(∀(s:Shared) (u:Value),BindsTo s fd ⟨[u],[]⟩ [(x,u)])/\
    ∀base:Heap,(K w.params).In base->base.Ns mainGlobals mg->iW l.prog w (K w.params) mg base CX k fa fd [x] (sp (K w.params)))
  (iu:∀(K:PySem.W.Frag) (H:Hp) (a:Addr) (ns:List Int),ns.length<=n->rO H->fS K H a (ns.map V.int)->sp K [.ref a] H (λv _=>v=.bl true) λ_ _ _=>False)
  (Bv:∀(H:Hp) (s:Shared) (e:Value) (s':Shared),CX [] H s (λ_ _ _=>False) e s'->False) :
  PySem.W.WalkO q loose XP YP l.row.toRowW d [] (λf vs=>PySem.call f vs):=
 HS (K:=K) (CX:=λ_=>CX) (sp:=λw=>sp (K w.params)) hn hn2 hdf hr hY F (λw H a ns h1 h2 h3=>iu (K w.params) H a ns h1 h2 h3) λ_ H s e s'=>Bv H s e s'
noncomputable def nX(s:Stmt):Arguments:=match s with
 |.FunctionDef _ a _ _ _ _ _ _ _ _=>a
 |_=>{ posonlyargs:=[],args:=[],vararg:=none,kwonlyargs:=[],kw_defaults:=[],kwarg:=none,defaults:=[]}
noncomputable def iw(s:Stmt):List Stmt:=match s with
 |.FunctionDef _ _ b _ _ _ _ _ _ _=>b
 |_=>[]
noncomputable def aH(s:Stmt):Scope:=match s with
 |.FunctionDef _ _ _ _ _ _ sc _ _ _=>sc
 |_=>{ kind:=.function,names:=[],isGenerator:=false,isCoroutine:=false }
abbrev ng:mU:=λ_ _ _ _ _ _=>False
abbrev E0:XK:=λ_ _ _=>False
def Qv{X:Cx}:Passes ng X E0:=λ_ _ _ _ _ _ _ h=>h.elim
structure vt(K:PySem.W.Frag)(x qual:Str)(st:Stmt)(f:Addr)(fd:FuncData):Prop where
 ex:∃(oc:Value) (od:Option Addr) (kV doc pm:Value) (an:Option Addr) (cdv ct:Value) (osl:Array (Option Value)),
  fd=PySem.W.fnOf x qual (nX st) (iw st) (aH st) .none kV doc pm an cdv ct/\K.lookup f=some ⟨oc,od,.func fd,osl⟩/\PySem.W.codeIn K cdv qual=true
 kp:PySem.W.keepIn K (.ref f)=true
section
variable{P:Program}{w:World}{K:PySem.W.Frag}{mg:Str->Option Value}{base:Heap}
def vt.ok{x qual:Str}{st:Stmt}{f:Addr}{fd:FuncData}{N ps:List Str}{k:Nat}{sp:Sp}(F:vt K x qual st f fd)(S:aY N ps (aH st))(len:∀vs H Q E,sp vs H Q E->vs.length=ps.length)
  (hbody:∀(cdv:Value) (A:Around) (outer:List Env) (s:Shared) (H:Hp) (vs:List V) (Q:VK) (E:XK),g9 k (A.deeper (envOfC qual (aH st) s.heap.objs.size f cdv))->sp vs H Q E->
   ∃t,iT (pI ng P w K mg base N qual (aH st) f cdv A outer s H E).sY (iw st) t/\t { nx:=λ_ H'=>Q .bz H',rt:=Q } (start N vs) H):iW P w K mg base ng (k+1) f fd ps sp:=by
 obtain⟨oc,od,kV,doc,pm,an,cdv,ct,osl,rfl,lk,hcd⟩:=F.ex;refine Qq lk hcd S len λA outer s H vs Q E hr iu=>?_;obtain⟨t,h,q⟩:=hbody cdv A outer s H vs Q E hr iu;exact⟨t,h.sY,q⟩
def vt.binds{x qual:Str}{st:Stmt}{f:Addr}{fd:FuncData}{ps:List Str}(F:vt K x qual st f fd)
  (h:∀(kV doc pm:Value) (an:Option Addr) (cdv ct:Value) (us:List Value),us.length=ps.length->bindArgs (PySem.W.fnOf x qual (nX st) (iw st) (aH st) .none kV doc pm an cdv ct) ⟨us,[]⟩=pure (ps.zip us)):Binds K fd ps []:=by
 obtain⟨oc,od,kV,doc,pm,an,cdv,ct,osl,rfl,lk,hcd⟩:=F.ex;exact .all (h kV doc pm an cdv ct)
def bG{x qual:Str}{st:Stmt}{f:Addr}{oc:Value}{od an:Option Addr}{osl:Array (Option Value)}{kV doc pm cdv ct:Value}(l:K.lookup f=some ⟨oc,od,.func (PySem.W.fnOf x qual (nX st) (iw st) (aH st) .none kV doc pm an cdv ct),osl⟩)
  (c:PySem.W.codeIn K cdv qual=true) (k:PySem.W.keepIn K (.ref f)=true):vt K x qual st f (PySem.W.fnOf x qual (nX st) (iw st) (aH st) .none kV doc pm an cdv ct):=⟨⟨oc,od,kV,doc,pm,an,cdv,ct,osl,rfl,l,c⟩,k⟩
end
section
variable{X:Cx}
def pv (i:Nat) {x:Str}{pos:Pos}(hN:X.N[i]?=some x:=by rfl) (hv:A8 X.env.scope x:=by first|exact Or.inl rfl|exact Or.inr (Or.inl rfl)|exact Or.inr (Or.inr rfl)) (hd:(x==("__debug__" : Str))=false:=by decide)
  (hcd:(x==("__classdict__" : Str))=false:=by decide):PE X (.Name x pos) (Kc i):=Ba hN hv hd hcd
end
end L2
namespace Ev
inductive D where
 |bz|bl (b:Bool)|int (i:Int)|str (s:List Nat)|tup (ds:List D)|ref (n:Nat)
inductive O where
 |lst (ds:List D)|bU (ds:List D)
abbrev Hh:=List O
abbrev Fr:=List (Option D)
inductive R(α:Type) where
 |ok (a:α) (h:Hh)
 |bad
noncomputable def R.bind{α β:Type}(r:R α)(f:α->Hh->R β):R β:=
 match r with
 |.ok a h=>f a h
 |.bad=>.bad
@[simp] theorem ak{α β:Type}(a:α)(h:Hh)(f:α->Hh->R β):(R.ok a h).bind f=f a h:=rfl
@[simp] theorem DN{α β:Type}(f:α->Hh->R β):(R.bad:R α).bind f=.bad:=rfl
def ai{α β:Type}{r:R α}{f:α->Hh->R β}{b:β}{h:Hh}(e:r.bind f=.ok b h):∃a h1,r=.ok a h1/\f a h1=.ok b h:=by
 cases r with
 |ok a h1=>exact⟨a,h1,rfl,e⟩
 |bad=>cases e
noncomputable def R.of{α:Type}(o:Option α)(h:Hh):R α:=match o with
 |some a=>.ok a h
 |none=>.bad
@[simp] theorem ef{α:Type}(a:α)(h:Hh):R.of (some a) h=.ok a h:=rfl
@[simp] theorem of_none{α:Type}(h:Hh):R.of (none:Option α) h=.bad:=rfl
def aI{α:Type}{o:Option α}{h h':Hh}{a:α}(e:R.of o h=.ok a h'):o=some a/\h'=h:=by
 cases o with
 |none=>cases e
 |some b=>cases e;exact⟨rfl,rfl⟩
inductive bJ where
 |add|sub|mul|fdiv|mod
inductive bx where
 |eq|ne|lt|gt
 |le|ge
 |isin|fq
inductive TY where
 |int|bool|str|tuple|list
inductive BI where
 |len|sum|min
 |all
 |vv
 |gO|mj
inductive ME where
 |join|append|extend|pop
 |part|idxs
inductive T where
 |one (i:Nat)|many (l:List Nat)
mutual
inductive E where
 |c (d:D)|v (i:Nat)|tup (es:Es)|lst (es:Es)
 |bin (o:bJ) (a b:E)|cmp (o:bx) (a b:E)
 |ch (o p:bx) (a b c:E)
 |nt (a:E)|neg (a:E)|an (a b:E)|orr (a b:E)|iU (t a b:E)
 |ix (a b:E)|sl (a:E) (lo hi:Eo)
 |rv (a:E)
 |cl (f:Nat) (es:Es)|bi (b:BI) (es:Es)|me (m:ME) (o:E) (es:Es)
 |gx (a:E) (ts:List TY)
 |comp (elt:E) (t:T) (it:It) (cond:Eo)
 |gp (it:It)
 |gP (kvs:List (D×D)) (a:E)|jA (a:E)
inductive Es where
 |nil|cons (e:E) (es:Es)
inductive Eo where
 |no|yes (e:E)
inductive It where
 |seq (e:E)|gI (es:Es)
 |jV (a b:E)
 |enum (a:E)|rev (a:E)
end
mutual
inductive S where
 |set (i:Nat) (e:E)|zP (l:List Nat) (e:E)
 |exp (e:E)|ret (e:E)|iff (t:E) (a b:Ss)|for (t:T) (it:It) (b:Ss)|oU (t:E) (b:Ss)
 |pass|brk|cnt
 |eS (c:Nat)
inductive Ss where
 |nil|cons (s:S) (ss:Ss)
end
inductive Fl where
 |nx|bk|ct|ret (d:D)
noncomputable def big:Nat:=16777216
noncomputable def cO(f:D->D->Option Bool):List D->List D->Option Bool
 |[],[]=>some true
 |x :: xs,y :: ys=>do
  let b <-f x y
  let c <-cO f xs ys
  pure (b&&c)
 |_,_=>some false
noncomputable def bA(h:Hh)(n:Nat):Option (List D):=match h[n]? with
 |some (.lst ds)=>some ds
 |some (.bU ds)=>some ds
 |_=>none
noncomputable def b2i(b:Bool):Int:=if b then 1 else 0
noncomputable def jW(h:Hh)(f:D->D->Option Bool)(a b:Nat):Option Bool:=if a=b then (bA h a).map λ_=>true else match h[a]?,h[b]? with
 |some (.lst x),some (.lst y)=>cO f x y
 |some (.bU x),some (.lst y)=>cO f x y
 |some (.lst x),some (.bU y)=>cO f x y
 |_,_=>none
noncomputable def gS(h:Hh):Nat->D->D->Option Bool
 |0,_,_=>none
 |_+1,.bz,.bz=>some true
 |_+1,.bl a,.bl b=>some (a==b)
 |_+1,.int a,.int b=>some (a==b)
 |_+1,.bl a,.int b=>some (b2i a==b)
 |_+1,.int a,.bl b=>some (a==b2i b)
 |_+1,.str a,.str b=>some (a==b)
 |n+1,.tup a,.tup b=>cO (gS h n) a b
 |n+1,.ref a,.ref b=>jW h (gS h n) a b
 |_+1,.ref a,_=>(bA h a).map λ_=>false
 |_+1,_,.ref a=>(bA h a).map λ_=>false
 |_+1,_,_=>some false
noncomputable def deep:Nat:=20
noncomputable def truthy(h:Hh):D->Option Bool
 |.bz=>some false
 |.bl b=>some b
 |.int i=>some (i != 0)
 |.str s=>some (!s.isEmpty)
 |.tup ds=>some (!ds.isEmpty)
 |.ref n=>match h[n]? with
  |_=>(bA h n).map λds=>!ds.isEmpty
noncomputable def alloc(ds:List D)(h:Hh):R D:=if ds.length<=big then .ok (.ref h.length) (h++[.lst ds])else .bad
noncomputable def rep{α:Type}(k:Nat)(l:List α):List α:=(List.replicate k l).flatten
noncomputable def bT(i j:Int):Bool:=(decide (-(2 ^ 64)<i)&&decide (i<2 ^ 64)) || (decide (-(2 ^ 64)<j)&&decide (j<2 ^ 64))
noncomputable def bV:bJ->D->D->Hh->R D
 |.add,.int i,.int j,h=>.ok (.int (i+j)) h
 |.add,.str a,.str b,h=>if a.length+b.length<=big then .ok (.str (a++b)) h else .bad
 |.add,.tup a,.tup b,h=>if a.length+b.length<=big then .ok (.tup (a++b)) h else .bad
 |.add,.ref a,.ref b,h=>match h[a]?,h[b]? with
  |some (.lst x),some (.lst y)=>alloc (x++y) h
  |_,_=>.bad
 |.sub,.int i,.int j,h=>.ok (.int (i - j)) h
 |.mul,.int i,.int j,h=>if bT i j then .ok (.int (i*j)) h else .bad
 |.mul,.str a,.int k,h=>if 0<=k/\k<=1000/\a.length<=1000 then .ok (.str (rep k.toNat a)) h else .bad
 |.mul,.tup a,.int k,h=>if 0<=k/\k<=1000/\a.length<=1000 then .ok (.tup (rep k.toNat a)) h else .bad
 |.mul,.ref a,.int k,h=>match h[a]? with
  |some (.lst x)=>if 0<=k/\k<=1000/\x.length<=1000 then alloc (rep k.toNat x) h else .bad
  |_=>.bad
 |.fdiv,.int i,.int j,h=>if 0<j/\j<1073741824 then .ok (.int (i / j)) h else .bad
 |.mod,.int i,.int j,h=>if 0<j then .ok (.int (i % j)) h else .bad
 |_,_,_,_=>.bad
noncomputable def mem(h:Hh)(x:D):List D->Option Bool
 |[]=>some false
 |y :: ys=>do
  let b <-gS h deep y x
  let c <-mem h x ys
  pure (b ||c)
noncomputable def isin(x y:D)(h:Hh):Option Bool:=match y with
 |.str s=>match x with
  |.str [c]=>some (s.contains c)
  |_=>none
 |.tup ds=>mem h x ds
 |.ref n=>(bA h n).bind λds=>mem h x ds
 |_=>none
noncomputable def cop(o:bx)(x y:D)(h:Hh):Option Bool:=match o,x,y with
 |.eq,x,y=>gS h deep x y
 |.ne,x,y=>(gS h deep x y).map (!·)
 |.lt,.int i,.int j=>some (decide (i<j))
 |.le,.int i,.int j=>some (decide (i<=j))
 |.gt,.int i,.int j=>some (decide (j<i))
 |.ge,.int i,.int j=>some (decide (j<=i))
 |.isin,x,y=>isin x y h
 |.fq,x,y=>(isin x y h).map (!·)
 |_,_,_=>none
noncomputable def dO(n:Nat)(i:Int):Option Nat:=if 0<=i then (if i<n then some i.toNat else none)else if -(n:Int)<=i then some (i+n).toNat else none
noncomputable def bL{α:Type}(xs:List α)(i:Int):Option α:=(dO xs.length i).bind λj=>xs[j]?
noncomputable def gf(x y:D)(h:Hh):Option D:=match x,y with
 |.tup ds,.int i=>bL ds i
 |.str s,.int i=>(bL s i).map λc=>.str [c]
 |.ref n,.int i=>(bA h n).bind λds=>bL ds i
 |_,_=>none
noncomputable def aS(n d:Nat):Option Int->Nat
 |none=>d
 |some v=>if v<0 then (v+n).toNat else min v.toNat n
noncomputable def cut{α:Type}(xs:List α)(lo hi:Option Int):List α:=(xs.drop (aS xs.length 0 lo)).take (aS xs.length xs.length hi - aS xs.length 0 lo)
noncomputable def eV(x:D)(lo hi:Option Int)(h:Hh):R D:=match x with
 |.tup ds=>.ok (.tup (cut ds lo hi)) h
 |.str s=>.ok (.str (cut s lo hi)) h
 |.ref n=>match bA h n with
  |some ds=>alloc (cut ds lo hi) h
  |none=>.bad
 |_=>.bad
noncomputable def lJ(x:D)(h:Hh):R D:=match x with
 |.tup ds=>.ok (.tup ds.reverse) h
 |.ref n=>match bA h n with
  |some ds=>alloc ds.reverse h
  |none=>.bad
 |_=>.bad
noncomputable def dS(h:Hh):D->TY->Bool
 |.bl _,.bool=>true
 |.bl _,.int=>true
 |.int _,.int=>true
 |.str _,.str=>true
 |.tup _,.tuple=>true
 |.ref n,.list=>(bA h n).isSome
 |_,_=>false
noncomputable def boolsOf:List D->Option (List Bool)
 |[]=>some []
 |.bl b :: ds=>(boolsOf ds).map λr=>b :: r
 |_=>none
noncomputable def intsOf:List D->Option (List Int)
 |[]=>some []
 |.int i :: ds=>(intsOf ds).map λr=>i :: r
 |_=>none
noncomputable def strsOf:List D->Option (List (List Nat))
 |[]=>some []
 |.str s :: ds=>(strsOf ds).map λr=>s :: r
 |_=>none
noncomputable def bE(sep:List Nat):List (List Nat)->List Nat
 |[]=>[]
 |[s]=>s
 |s :: t :: r=>s++sep++bE sep (t :: r)
noncomputable def lexLe:List Nat->List Nat->Bool
 |[],_=>true
 |_ :: _,[]=>false
 |x :: xs,y :: ys=>if x=y then lexLe xs ys else decide (x<y)
noncomputable def K3(x:List Nat):List (List Nat)->List (List Nat)
 |[]=>[x]
 |y :: ys=>if lexLe x y then x :: y :: ys else y :: K3 x ys
noncomputable def cY:List (List Nat)->List (List Nat)
 |[]=>[]
 |x :: xs=>K3 x (cY xs)
noncomputable def gj(i:Int):List Nat:=(toString i).toList.map Char.toNat
noncomputable def pK(a:Nat):Bool:=decide (48<=a)&&decide (a<=57)
noncomputable def pL:List Nat->Option Int
 |[a]=>if pK a then some ((a:Int) - 48)else none
 |[a,b]=>if pK a&&pK b then some (10*((a:Int) - 48)+((b:Int) - 48))else none
 |_=>none
noncomputable def bC(c:Nat):List Nat->List (List Nat)
 |[]=>[[]]
 |x :: s=>if x=c then [] :: bC c s else match bC c s with
  |p :: ps=>(x :: p) :: ps
  |[]=>[[x]]
noncomputable def vz(x y:D):Option (List D):=match x,y with
 |.str a,.str [c]=>if c<128 then some ((bC c a).map .str)else none
 |_,_=>none
noncomputable def cH(b:BI)(xs:List D)(h:Hh):R D:=match b,xs with
 |.len,[.str s]=>if s.length<=big then .ok (.int s.length) h else .bad
 |.len,[.tup ds]=>.ok (.int ds.length) h
 |.len,[.ref n]=>R.of ((bA h n).map λds=>.int ds.length) h
 |.all,[.ref n]=>R.of (((bA h n).bind boolsOf).map λbs=>.bl (bs.all id)) h
 |.sum,[.ref n]=>R.of (((bA h n).bind intsOf).map λis=>.int is.sum) h
 |.min,[.int i,.int j]=>.ok (.int (if j<i then j else i)) h
 |.vv,[.bl b]=>.ok (.int (if b then 1 else 0)) h
 |.gO,[.int i]=>if -1000000<i/\i<1000000 then .ok (.str (gj i)) h else .bad
 |.gO,[.str s]=>.ok (.str s) h
 |.mj,[.str s]=>R.of ((pL s).map .int) h
 |_,_=>.bad
noncomputable def findS(y:List Nat):Nat->List Nat->Option Nat
 |k,[]=>if y=[]then some k else none
 |k,x :: l=>if (x :: l).take y.length=y then some k else findS y (k+1) l
noncomputable def gq(a y:List Nat):List (List Nat):=match findS y 0 a with
 |some i=>[a.take i,y,a.drop (i+y.length)]
 |none=>[a,[],[]]
noncomputable def dz(m:ME)(o:D)(xs:List D)(h:Hh):R D:=match m,o,xs with
 |.join,.str sep,[.ref n]=>match (bA h n).bind strsOf with
  |some ss=>if (ss.map (·.length)).sum+ss.length*sep.length<=big then .ok (.str (bE sep ss)) h else .bad
  |none=>.bad
 |.part,.str a,[.str y]=>if y=[]then .bad else .ok (.tup ((gq a y).map .str)) h
 |.idxs,.str a,[.str y]=>R.of ((findS y 0 a).map λ(k:Nat)=>.int k) h
 |.append,.ref n,[x]=>match h[n]? with
  |some (.lst ds)=>if ds.length<big then .ok .bz (h.set n (.lst (ds++[x])))else .bad
  |_=>.bad
 |.extend,.ref n,[.ref m]=>match h[n]?,h[m]? with
  |some (.lst ds),some (.lst es)=>if ds.length+es.length<=big then .ok .bz (h.set n (.lst (ds++es)))else .bad
  |_,_=>.bad
 |.pop,.ref n,[]=>match h[n]? with
  |some (.lst ds)=>match ds[ds.length - 1]? with
   |some x=>.ok x (h.set n (.lst ds.dropLast))
   |none=>.bad
  |_=>.bad
 |_,_,_=>.bad
noncomputable def yw(m:ME)(x:D)(h:Hh):Bool:=match m,x with
 |.join,.str _=>true
 |.join,_=>false
 |.part,.str _=>true
 |.part,_=>false
 |.idxs,.str _=>true
 |.idxs,_=>false
 |_,.ref n=>(bA h n).isSome
 |_,_=>false
noncomputable def fJ(x:D):List (D×D)->Option D
 |[]=>none
 | (k,v) :: r=>match gS [] 1 k x with
  |some true=>some v
  |some false=>fJ x r
  |none=>none
abbrev Src:=List D×List (Nat×List D)
noncomputable def gH(h:Hh):D->Option Src
 |.tup ds=>some (ds,[])
 |.str s=>some (s.map λc=>.str [c],[])
 |.ref n=>(bA h n).map λds=>(ds,[(n,ds)])
 |_=>none
noncomputable def range(lo:Int)(n:Nat):List D:=(List.range n).map λ(i:Nat)=>.int (lo+i)
noncomputable def eH:List D->Option Src
 |[.int j]=>if -(2 ^ 62)<=j/\j<2 ^ 62 then some (range 0 j.toNat,[])else none
 |[.int i,.int j]=>if -(2 ^ 62)<=i/\i<2 ^ 62/\-(2 ^ 62)<=j/\j<2 ^ 62 then some (range i (j - i).toNat,[])else none
 |_=>none
noncomputable def gZ:Int->List D->List D
 |_,[]=>[]
 |k,x :: xs=>.tup [.int k,x] :: gZ (k+1) xs
noncomputable def zQ(a b:List D):Bool:=@decide (a=b) (Classical.propDecidable _)
def tO(a b:List D):zQ a b=true↔a=b:=@decide_eq_true_iff _ (Classical.propDecidable _)
@[simp] theorem zR(a:List D):zQ a a=true:=(tO a a).mpr rfl
noncomputable def stays(h:Hh):List (Nat×List D)->Bool
 |[]=>true
 | (n,ds) :: r=>(match bA h n with|some es=>zQ es ds|none=>false)&&stays h r
noncomputable def cW:List Nat->List D->Fr->Option Fr
 |[],[],fr=>some fr
 |i :: is,d :: ds,fr=>cW is ds (fr.set i (some d))
 |_,_,_=>none
noncomputable def cJ:T->D->Fr->Option Fr
 |.one i,d,fr=>some (fr.set i (some d))
 |.many l,.tup ds,fr=>cW l ds fr
 |_,_,_=>none
noncomputable def slots:T->List Nat
 |.one i=>[i]
 |.many l=>l
noncomputable def undef(t:T)(fr:Fr):Bool:=(slots t).all λi=>(fr[i]?.join).isNone
noncomputable def DO:D->Option (List D)
 |.tup ds=>some ds
 |_=>none
noncomputable def rP:D->Hh->R D
 |.tup ds,h=>.ok (.tup ds) h
 |.ref n,h=>match bA h n with
  |some ds=>if ds.length<=big then .ok (.tup ds) h else .bad
  |none=>.bad
 |_,_=>.bad
noncomputable def DP(h:Hh):D->Option Src
 |.ref n=>(bA h n).map λds=>(ds,[(n,ds)])
 |_=>none
noncomputable def bR(f:D->Hh->R (Option D))(ck:List (Nat×List D)):List D->Hh->R (List D)
 |[],h=>if stays h ck then .ok [] h else .bad
 |d :: ds,h=>if stays h ck then (f d h).bind λo h1=>(bR f ck ds h1).bind λr h2=>.ok (o.toList++r) h2 else .bad
noncomputable def forL(f:D->Fr->Hh->R (Fl×Fr))(ck:List (Nat×List D)):List D->Fr->Hh->R (Fl×Fr)
 |[],fr,h=>if stays h ck then .ok (.nx,fr) h else .bad
 |d :: ds,fr,h=>if stays h ck then (f d fr h).bind λp h1=>match p.1 with
   |.nx=>forL f ck ds p.2 h1
   |.ct=>forL f ck ds p.2 h1
   |.bk=>.ok (.nx,p.2) h1
   |.ret x=>.ok (.ret x,p.2) h1
  else .bad
noncomputable def eW(t:Fr->Hh->R Bool)(f:Fr->Hh->R (Fl×Fr)):Nat->Fr->Hh->R (Fl×Fr)
 |0,_,_=>.bad
 |n+1,fr,h=>(t fr h).bind λb h1=>if b then (f fr h1).bind λp h2=>match p.1 with
   |.nx=>eW t f n p.2 h2
   |.ct=>eW t f n p.2 h2
   |.bk=>.ok (.nx,p.2) h2
   |.ret x=>.ok (.ret x,p.2) h2
  else .ok (.nx,fr) h1
abbrev aP:=Nat->List D->Hh->R D
noncomputable def intOf:D->Option Int
 |.int i=>some i
 |_=>none
mutual
noncomputable def ev(P:aP):E->Fr->Hh->R D
 |.c d,_,h=>.ok d h
 |.v i,fr,h=>R.of (fr[i]?.join) h
 |.tup es,fr,h=>(cC P es fr h).bind λds h1=>if ds.length<=big then .ok (.tup ds) h1 else .bad
 |.lst es,fr,h=>(cC P es fr h).bind λds h1=>alloc ds h1
 |.bin o a b,fr,h=>(ev P a fr h).bind λx h1=>(ev P b fr h1).bind λy h2=>bV o x y h2
 |.cmp o a b,fr,h=>(ev P a fr h).bind λx h1=>(ev P b fr h1).bind λy h2=>R.of ((cop o x y h2).map .bl) h2
 |.ch o p a b c,fr,h=>(ev P a fr h).bind λx h1=>(ev P b fr h1).bind λy h2=>(R.of (cop o x y h2) h2).bind λk h3=>
   if k then (ev P c fr h3).bind λz h4=>R.of ((cop p y z h4).map .bl) h4 else .ok (.bl false) h3
 |.nt a,fr,h=>(ev P a fr h).bind λx h1=>match x with
   |.bl b=>.ok (.bl (!b)) h1
   |_=>.bad
 |.neg a,fr,h=>(ev P a fr h).bind λx h1=>match x with
   |.int i=>.ok (.int (-i)) h1
   |_=>.bad
 |.an a b,fr,h=>(ev P a fr h).bind λx h1=>match x with
   |.bl true=>ev P b fr h1
   |.bl false=>.ok (.bl false) h1
   |_=>.bad
 |.orr a b,fr,h=>(ev P a fr h).bind λx h1=>match x with
   |.bl true=>.ok (.bl true) h1
   |.bl false=>ev P b fr h1
   |_=>.bad
 |.iU t a b,fr,h=>(aN P t fr h).bind λk h1=>if k then ev P a fr h1 else ev P b fr h1
 |.ix a b,fr,h=>(ev P a fr h).bind λx h1=>(ev P b fr h1).bind λy h2=>R.of (gf x y h2) h2
 |.sl a lo hi,fr,h=>(ev P a fr h).bind λx h1=>(gr P lo fr h1).bind λl h2=>(gr P hi fr h2).bind λu h3=>eV x l u h3
 |.rv a,fr,h=>(ev P a fr h).bind λx h1=>lJ x h1
 |.cl f es,fr,h=>(cC P es fr h).bind λds h1=>P f ds h1
 |.bi b es,fr,h=>(cC P es fr h).bind λds h1=>cH b ds h1
 |.me m o es,fr,h=>(ev P o fr h).bind λx h1=>if yw m x h1 then (cC P es fr h1).bind λds h2=>dz m x ds h2 else .bad
 |.gx a ts,fr,h=>(ev P a fr h).bind λx h1=>.ok (.bl (ts.any (dS h1 x))) h1
 |.comp elt t it cond,fr,h=>(cT P it fr h).bind λs h1=>if undef t fr then
   (bR (λd h2=>match cJ t d fr with
    |none=>.bad
    |some aq=>(iK P cond aq h2).bind λk h3=>if k then (ev P elt aq h3).bind λx h4=>.ok (some x) h4 else .ok none h3) s.2 s.1 h1).bind λds h2=>alloc ds h2 else .bad
 |.gp it,fr,h=>(cT P it fr h).bind λs h1=>alloc s.1 h1
 |.gP kvs a,fr,h=>(ev P a fr h).bind λx h1=>R.of (fJ x kvs) h1
 |.jA a,fr,h=>(ev P a fr h).bind λx h1=>rP x h1
noncomputable def cC(P:aP):Es->Fr->Hh->R (List D)
 |.nil,_,h=>.ok [] h
 |.cons e es,fr,h=>(ev P e fr h).bind λd h1=>(cC P es fr h1).bind λds h2=>.ok (d :: ds) h2
noncomputable def gr(P:aP):Eo->Fr->Hh->R (Option Int)
 |.no,_,h=>.ok none h
 |.yes e,fr,h=>(ev P e fr h).bind λd h1=>R.of ((intOf d).map some) h1
noncomputable def iK(P:aP):Eo->Fr->Hh->R Bool
 |.no,_,h=>.ok true h
 |.yes e,fr,h=>aN P e fr h
noncomputable def aN(P:aP):E->Fr->Hh->R Bool
 |.an a b,fr,h=>(aN P a fr h).bind λk h1=>if k then aN P b fr h1 else .ok false h1
 |.orr a b,fr,h=>(aN P a fr h).bind λk h1=>if k then .ok true h1 else aN P b fr h1
 |.nt a,fr,h=>(aN P a fr h).bind λk h1=>.ok (!k) h1
 |e,fr,h=>(ev P e fr h).bind λx h1=>R.of (truthy h1 x) h1
noncomputable def cT(P:aP):It->Fr->Hh->R Src
 |.seq e,fr,h=>(ev P e fr h).bind λx h1=>R.of (gH h1 x) h1
 |.gI es,fr,h=>(cC P es fr h).bind λds h1=>R.of (eH ds) h1
 |.jV a b,fr,h=>(ev P a fr h).bind λx h1=>(ev P b fr h1).bind λy h2=>R.of ((vz x y).map λl=>(l,[])) h2
 |.enum a,fr,h=>(ev P a fr h).bind λx h1=>R.of ((DP h1 x).map λs=>(gZ 0 s.1,s.2)) h1
 |.rev a,fr,h=>(ev P a fr h).bind λx h1=>R.of ((DO x).map λds=>(ds.reverse,[])) h1
end
mutual
noncomputable def ex(P:aP)(w:Nat):S->Fr->Hh->R (Fl×Fr)
 |.set i e,fr,h=>(ev P e fr h).bind λx h1=>.ok (.nx,fr.set i (some x)) h1
 |.zP l e,fr,h=>(ev P e fr h).bind λx h1=>match cJ (.many l) x fr with
   |some aq=>.ok (.nx,aq) h1
   |none=>.bad
 |.exp e,fr,h=>(ev P e fr h).bind λ_ h1=>.ok (.nx,fr) h1
 |.ret e,fr,h=>(ev P e fr h).bind λx h1=>.ok (.ret x,fr) h1
 |.iff t a b,fr,h=>(aN P t fr h).bind λk h1=>if k then exs P w a fr h1 else exs P w b fr h1
 |.for t it b,fr,h=>(cT P it fr h).bind λs h1=>forL (λd aq h2=>match cJ t d aq with
   |some cL=>exs P w b cL h2
   |none=>.bad) s.2 s.1 fr h1
 |.oU t b,fr,h=>eW (λaq h2=>aN P t aq h2) (λaq h2=>exs P w b aq h2) w fr h
 |.pass,fr,h=>.ok (.nx,fr) h
 |.brk,fr,h=>.ok (.bk,fr) h
 |.cnt,fr,h=>.ok (.ct,fr) h
 |.eS _,_,_=>.bad
noncomputable def exs(P:aP)(w:Nat):Ss->Fr->Hh->R (Fl×Fr)
 |.nil,fr,h=>.ok (.nx,fr) h
 |.cons s ss,fr,h=>(ex P w s fr h).bind λp h1=>match p.1 with
   |.nx=>exs P w ss p.2 h1
   |_=>.ok p h1
end
structure Fn where
 np:Nat
 ns:Nat
 body:Ss
noncomputable def dZ(fn:Fn)(ds:List D):Fr:=ds.map some++List.replicate (fn.ns - fn.np) none
noncomputable def endOf(r:R (Fl×Fr)):R D:=r.bind λp h=>match p.1 with
 |.ret d=>.ok d h
 |.nx=>.ok .bz h
 |_=>.bad
noncomputable def run(F:List Fn)(w:Nat):Nat->aP
 |0,_,_,_=>.bad
 |n+1,f,ds,h=>match F[f]? with
  |some fn=>if ds.length=fn.np then endOf (exs (run F w n) w fn.body (dZ fn ds) h)else .bad
  |none=>.bad
def qk(F:List Fn)(w n f:Nat)(ds:List D)(h:Hh):run F w (n+1) f ds h=match F[f]? with
  |some fn=>if ds.length=fn.np then endOf (exs (run F w n) w fn.body (dZ fn ds) h)else .bad
  |none=>.bad:=rfl
end Ev
namespace Sm
open PySem PySem.Spec PyProof.Rows L2
noncomputable def aB(l:List Nat):Str:=⟨l.toArray⟩
def bf(l:List Nat):(aB l).length=l.length:=by simp[aB,Str.length]
def lK{a b:List Nat}(h:aB a=aB b):a=b:=by
 have h1:a.toArray=b.toArray:=aab Str.cps h;simpa using aab Array.toList h1
def jX:Ev.big=sizeLine:=by rw[aa9];rfl
section
variable(K:PySem.W.Frag)
mutual
noncomputable def RV(H:Hp)(r:List Addr):Ev.D->V->Prop
 |.bz,v=>v=.bz
 |.bl b,v=>v=.bl b
 |.int i,v=>v=.int i
 |.str s,v=>v=.str (aB s)/\s.length<=sizeLine
 |.ref n,v=>∃a,v=.ref a/\r[n]?=some a
 |.tup ds,v=>∃a vs,v=.ref a/\ee K H a vs/\aG H r ds vs
noncomputable def aG(H:Hp)(r:List Addr):List Ev.D->List V->Prop
 |[],vs=>vs=[]
 |d :: ds,vs=>∃v w,vs=v :: w/\RV H r d v/\aG H r ds w
end
noncomputable def zS(H:Hp)(a:Addr)(vs:List V):Prop:=(∃o,H a=some (.bU o (.lst vs)))\/
 ∃(o:Obj) (its:Array Value) (n:Nat),K.lookup a=some o/\o.cls=.type "list" /\o.dict=none/\o.data=.seq its n/\its.size<=sizeLine/\Vals vs its.toList
noncomputable def RO(H:Hp)(r:List Addr):Ev.O->Addr->Prop
 |.lst ds,a=>∃vs,H a=some (.lst vs)/\aG K H r ds vs
 |.bU ds,a=>∃vs,zS K H a vs/\aG K H r ds vs
structure HR(H:Hp)(r:List Addr)(h:Ev.Hh):Prop where
 len:r.length=h.length
 ob:∀(n:Nat) o,h[n]?=some o->∃a,r[n]?=some a/\RO K H r o a
 inj:∀(n m:Nat) a x y,r[n]?=some a->r[m]?=some a->h[n]?=some (.lst x)->h[m]?=some (.lst y)->n=m
structure Fm(r r':List Addr)(H H':Hp):Prop where
 pre:∀(n:Nat) a,r[n]?=some a->r'[n]?=some a
 new:∀a∈r',a∈r\/H a=none
 keep:∀a o,H a=some o->a∉r->H' a=some o
 tups:∀a vs,ee K H a vs->ee K H' a vs
end
section
variable{K:PySem.W.Frag}{H H1 H2:Hp}{r r1 r2:List Addr}{h:Ev.Hh}
def Fm.refl:Fm K r r H H:=⟨λ_ _ e=>e,λ_ e=>.inl e,λ_ _ e _=>e,λ_ _ e=>e⟩
def Fm.trans(a:Fm K r r1 H H1)(b:Fm K r1 r2 H1 H2):Fm K r r2 H H2 where
 pre:=λn x e=>b.pre n x (a.pre n x e)
 new:=λx e=>by
  rcases b.new x e with q|q
  .exact a.new x q
  .by_cases z:x∈r
   .exact .inl z
   .refine .inr ?_;cases w:H x with
    |none=>rfl
    |some o=>rw[a.keep x o w z]at q;cases q
 keep:=λx o e n=>by
  refine b.keep x o (a.keep x o e n) λz=>?_;rcases a.new x z with q|q
  .exact n q
  .rw[e]at q;cases q
 tups:=λx vs e=>b.tups x vs (a.tups x vs e)
mutual
theorem RV.grow(f:∀(n:Nat) a,r[n]?=some a->r1[n]?=some a)(g:∀a vs,ee K H a vs->ee K H1 a vs):∀{d:Ev.D}{v:V},RV K H r d v->RV K H1 r1 d v
 |.bz,_,e=>e
 |.bl _,_,e=>e
 |.int _,_,e=>e
 |.str _,_,e=>e
 |.ref n,_,⟨a,e,z⟩=>⟨a,e,f n a z⟩
 |.tup ds,_,⟨a,vs,e,z,q⟩=>⟨a,vs,e,g a vs z,aG.grow f g q⟩
theorem aG.grow(f:∀(n:Nat) a,r[n]?=some a->r1[n]?=some a)(g:∀a vs,ee K H a vs->ee K H1 a vs):∀{ds:List Ev.D}{vs:List V},aG K H r ds vs->aG K H1 r1 ds vs
 |[],_,e=>e
 |_ :: _,_,⟨v,w,e,z,q⟩=>⟨v,w,e,RV.grow f g z,aG.grow f g q⟩
end
def RV.mono(f:Fm K r r1 H H1){d:Ev.D}{v:V}(q:RV K H r d v):RV K H1 r1 d v:=q.grow f.pre f.tups
def aG.mono(f:Fm K r r1 H H1){ds:List Ev.D}{vs:List V}(q:aG K H r ds vs):aG K H1 r1 ds vs:=q.grow f.pre f.tups
def aG.nil:aG K H r [] []:=by simp[aG]
def aG.cons{d:Ev.D}{v:V}{ds:List Ev.D}{vs:List V}(a:RV K H r d v)(b:aG K H r ds vs):aG K H r (d :: ds) (v :: vs):=by
 simp only[aG];exact⟨v,vs,rfl,a,b⟩
theorem aG.length:∀{ds:List Ev.D}{vs:List V},aG K H r ds vs->vs.length=ds.length
 |[],_,e=>by simp only[aG]at e;subst e;rfl
 |_ :: _,_,e=>by
  simp only[aG]at e;obtain⟨v,w,rfl,_,q⟩:=e;simp[aG.length q]
theorem aG.get:∀{ds:List Ev.D}{vs:List V}{i:Nat}{d:Ev.D},aG K H r ds vs->ds[i]?=some d->∃v,vs[i]?=some v/\RV K H r d v
 |[],_,_,_,_,e=>by simp at e
 |_ :: _,_,0,_,h,e=>by
  simp only[aG]at h;obtain⟨v,w,rfl,z,q⟩:=h;simp at e;subst e;exact⟨v,by simp,z⟩
 |_ :: _,_,i+1,_,h,e=>by
  simp only[aG]at h;obtain⟨v,w,rfl,z,q⟩:=h;obtain⟨u,a,b⟩:=aG.get (i:=i) q (by simpa using e);exact⟨u,by simpa using a,b⟩
theorem aG.append:∀{ds es:List Ev.D}{vs ws:List V},aG K H r ds vs->aG K H r es ws->aG K H r (ds++es) (vs++ws)
 |[],_,_,_,a,b=>by simp only[aG]at a;subst a;simpa using b
 |_ :: _,_,_,_,a,b=>by
  simp only[aG]at a;obtain⟨v,w,rfl,z,q⟩:=a;simp only[aax];exact .cons z (aG.append q b)
theorem aG.take:∀{ds:List Ev.D}{vs:List V}(n:Nat),aG K H r ds vs->aG K H r (ds.take n) (vs.take n)
 |_,_,0,_=>by simp[aG]
 |[],_,_+1,a=>by simp only[aG]at a;subst a;simp[aG]
 |_ :: _,_,n+1,a=>by
  simp only[aG]at a;obtain⟨v,w,rfl,z,q⟩:=a;simp only[aaS];exact .cons z (aG.take n q)
theorem aG.drop:∀{ds:List Ev.D}{vs:List V}(n:Nat),aG K H r ds vs->aG K H r (ds.drop n) (vs.drop n)
 |_,_,0,a=>by simpa using a
 |[],_,_+1,a=>by simp only[aG]at a;subst a;simp[aG]
 |_ :: _,_,n+1,a=>by
  simp only[aG]at a;obtain⟨v,w,rfl,z,q⟩:=a;simp only[abf];exact aG.drop n q
theorem aG.reverse:∀{ds:List Ev.D}{vs:List V},aG K H r ds vs->aG K H r ds.reverse vs.reverse
 |[],_,a=>by simp only[aG]at a;subst a;simp[aG]
 |_ :: _,_,a=>by
  simp only[aG]at a;obtain⟨v,w,rfl,z,q⟩:=a;simp only[aak];exact(aG.reverse q).append (.cons z .nil)
theorem aG.rep{ds:List Ev.D}{vs:List V}(a:aG K H r ds vs):∀k:Nat,aG K H r (Ev.rep k ds) (Ev.rep k vs)
 |0=>by simp[Ev.rep,aG]
 |k+1=>by
  have h:=aG.rep a k;simp only[Ev.rep,Y5,aaI]at h ⊢;exact a.append h
def Fm.laid{p:Addr}{o:HO}(hp:H p=none):Fm K r (r++[p]) H (upd H p o) where
 pre:=λn a e=>by rw[Xk (List.getElem?_eq_some_iff.mp e).1];exact e
 new:=λa e=>by
  rcases List.mem_append.mp e with q|q
  .exact .inl q
  .rw[abj]at q;subst q;exact .inr hp
 keep:=λa ob e _=>by rw[bO (cF e hp)];exact e
 tups:=λa vs e=>by
  rcases e with (e|⟨ob,e⟩)|e
  .exact .inl (.inl (by rw[bO (cF e hp)];exact e))
  .exact .inl (.inr ⟨ob,by rw[bO (cF e hp)];exact e⟩)
  .exact .inr e
def Fm.tup{p:Addr}{o:HO}(hp:H p=none):Fm K r r H (upd H p o) where
 pre:=λn a e=>e
 new:=λa e=>.inl e
 keep:=λa ob e _=>by rw[bO (cF e hp)];exact e
 tups:=(Fm.laid (r:=r) hp).tups
theorem RO.mono{o:Ev.O}{a:Addr}(f:Fm K r r1 H H1)(q:RO K H r o a)(hl:∀ds vs,o=.lst ds->H a=some (.lst vs)->H1 a=some (.lst vs))(hf:∀ob vs,H a=some (.bU ob vs)->H1 a=some (.bU ob vs))
  : RO K H1 r1 o a:=by
 cases o with
 |lst ds=>
  obtain⟨vs,e,z⟩:=q;exact⟨vs,hl ds vs rfl e,z.mono f⟩
 |bU ds=>
  obtain⟨vs,e,z⟩:=q;refine⟨vs,?_,z.mono f⟩;rcases e with ⟨ob,e⟩|e
  .exact .inl ⟨ob,hf _ _ e⟩
  .exact .inr e
theorem HR.tup{p:Addr}{o:HO}(hr:HR K H r h)(hp:H p=none):HR K (upd H p o) r h where
 len:=hr.len
 ob:=λn ob e=>by
  obtain⟨a,e1,q⟩:=hr.ob n ob e;exact⟨a,e1,q.mono (Fm.tup hp) (λ_ vs _ z=>by rw[bO (cF z hp)];exact z) (λ_ _ z=>by rw[bO (cF z hp)];exact z)
   ⟩
 inj:=hr.inj
theorem HR.lst{p:Addr}{ds:List Ev.D}{vs:List V}(hr:HR K H r h)(hp:H p=none)(q:aG K H r ds vs):HR K (upd H p (.lst vs)) (r++[p]) (h++[.lst ds]) where
 len:=by simp[hr.len]
 ob:=λn ob e=>by
  by_cases hn:n<h.length
  .rw[Xk hn]at e;obtain⟨a,e1,z⟩:=hr.ob n ob e;exact⟨a,(Fm.laid (K:=K) (o:=.lst vs) hp).pre n a e1,z.mono (Fm.laid hp) (λ_ vs _ z=>by rw[bO (cF z hp)];exact z) (λ_ _ z=>by rw[bO (cF z hp)];exact z)
    ⟩
  .have e2:=(List.getElem?_eq_some_iff.mp e).1;simp only[Yt,aa6]at e2;have e3:n=h.length:=by omega
   subst e3;simp at e;subst e;exact⟨p,by rw[<-hr.len];simp,vs,g8,q.mono (Fm.laid hp)⟩
 inj:=λn m a x y e1 e2 e3 e4=>by
  have out:∀(k:Nat) z,(h++[Ev.O.lst ds])[k]?=some (.lst z)->(r++[p])[k]?=some a->(k<h.length/\r[k]?=some a/\h[k]?=some (.lst z)/\a≠p)\/(k=h.length/\a=p):=λk z q1 q2=>by
   by_cases hk:k<h.length
   .rw[Xk hk]at q1;rw[Xk (by rw[hr.len];exact hk)]at q2;obtain⟨b,e5,vs',e6,_⟩:=hr.ob k _ q1;rw[q2]at e5;cases e5;exact .inl ⟨hk,q2,q1,cF e6 hp⟩
   .have e5:=(List.getElem?_eq_some_iff.mp q1).1;simp only[Yt,aa6]at e5;have e6:k=r.length:=by rw[hr.len];omega
    subst e6;simp at q2;exact .inr ⟨hr.len,q2.symm⟩
  rcases out n x e3 e1 with ⟨h1,h2,h3,h4⟩|⟨h1,h2⟩
  .rcases out m y e4 e2 with ⟨k1,k2,k3,k4⟩|⟨k1,k2⟩
   .exact hr.inj n m a x y h2 k2 h3 k3
   .exact absurd k2 h4
  .rcases out m y e4 e2 with ⟨k1,k2,k3,k4⟩|⟨k1,k2⟩
   .exact absurd h2 k4
   .rw[h1,k1]
def HR.read{n:Nat}{ds:List Ev.D}(hr:HR K H r h)(e:Ev.bA h n=some ds):∃a vs,r[n]?=some a/\fS K H a vs/\aG K H r ds vs:=by
 unfold Ev.bA at e;split at e
 .rename_i z;cases e;obtain⟨a,e1,vs,e2,e3⟩:=hr.ob n _ z;exact⟨a,vs,e1,.inl (.inl e2),e3⟩
 .rename_i z;cases e;obtain⟨a,e1,vs,e2,e3⟩:=hr.ob n _ z;refine⟨a,vs,e1,?_,e3⟩;rcases e2 with ⟨ob,e2⟩|e2
  .exact .inl (.inr ⟨ob,e2⟩)
  .exact .inr e2
 .cases e
def Fm.write{a:Addr}{vs ws:List V}(ha:H a=some (.lst vs))(hm:a∈r):Fm K r r H (upd H a (.lst ws)) where
 pre:=λn b e=>e
 new:=λb e=>.inl e
 keep:=λb ob e n=>by rw[bO (λz=>n (by rw[z];exact hm))];exact e
 tups:=λb us e=>by
  rcases e with (e|⟨ob,e⟩)|e
  .exact .inl (.inl (by rw[bO (qg e ha (by intro z;cases z))];exact e))
  .exact .inl (.inr ⟨ob,by rw[bO (qg e ha (by intro z;cases z))];exact e⟩)
  .exact .inr e
theorem HR.write{n:Nat}{a:Addr}{ds es:List Ev.D}{vs ws:List V}(hr:HR K H r h)(hn:h[n]?=some (.lst ds))(K4:r[n]?=some a)(ha:H a=some (.lst vs))(q:aG K H r es ws) :
  HR K (upd H a (.lst ws)) r (h.set n (.lst es)) where
 len:=by simp[hr.len]
 ob:=λm ob e=>by
  have f:=Fm.write (K:=K) (ws:=ws) ha (aam K4);by_cases hm:m=n
  .subst hm;rw[Y6 (List.getElem?_eq_some_iff.mp hn).1]at e;cases e;exact⟨a,K4,ws,g8,q.mono f⟩
  .rw[WD (λz=>hm z.symm)]at e;obtain⟨b,e1,z⟩:=hr.ob m ob e;refine⟨b,e1,z.mono f (λXz us z3 z2=>?_) (λY7 us z2=>by rw[bO (qg z2 ha (by intro z;cases z))];exact z2)
    ⟩
   by_cases hb:b=a
   .subst hb;subst z3;exact absurd (hr.inj m n b Xz ds e1 K4 e hn) hm
   .rw[bO hb];exact z2
 inj:=λk m b x y e1 e2 e3 e4=>by
  have back:∀(j:Nat) z,(h.set n (Ev.O.lst es))[j]?=some (.lst z)->∃z',h[j]?=some (.lst z'):=λj z w=>by
   by_cases hj:j=n
   .subst hj;exact⟨ds,hn⟩
   .rw[WD (λz=>hj z.symm)]at w;exact⟨z,w⟩
  obtain⟨x',e5⟩:=back k x e3;obtain⟨y',e6⟩:=back m y e4;exact hr.inj k m b x' y' e1 e2 e5 e6
def iL{p:Addr}{vs ws:List V}(hp:H p=some (.lst vs)):∀a us,ee K H a us->ee K (upd H p (.lst ws)) a us:=λb us e=>by
 rcases e with (e|⟨ob,e⟩)|e
 .exact .inl (.inl (by rw[bO (qg e hp (by intro z;cases z))];exact e))
 .exact .inl (.inr ⟨ob,by rw[bO (qg e hp (by intro z;cases z))];exact e⟩)
 .exact .inr e
def HR.other{p:Addr}{vs ws:List V}(hr:HR K H r h)(hp:H p=some (.lst vs))(hn:p∉r):HR K (upd H p (.lst ws)) r h where
 len:=hr.len
 ob:=λn ob e=>by
  obtain⟨a,e1,q⟩:=hr.ob n ob e;have ha:a≠p:=λz=>hn (by rw[<-z];exact aam e1);refine⟨a,e1,?_⟩;cases ob with
  |lst ds=>
   obtain⟨us,e2,e3⟩:=q;exact⟨us,by rw[bO ha];exact e2,e3.grow (λ_ _ z=>z) (iL hp)⟩
  |bU ds=>
   obtain⟨us,e2,e3⟩:=q;refine⟨us,?_,e3.grow (λ_ _ z=>z) (iL hp)⟩;rcases e2 with ⟨o,e2⟩|e2
   .exact .inl ⟨o,by rw[bO ha];exact e2⟩
   .exact .inr e2
 inj:=hr.inj
def Fm.other{p:Addr}{vs ws:List V}(f:Fm K r r1 H H1)(h0:H p=none)(hp:H1 p=some (.lst vs)):Fm K r r1 H (upd H1 p (.lst ws)) where
 pre:=f.pre
 new:=f.new
 keep:=λa o e n=>by rw[bO (cF e h0)];exact f.keep a o e n
 tups:=λa us e=>iL hp a us (f.tups a us e)
def Fm.fq{p:Addr}{o:HO}(f:Fm K r r1 H H1)(hp:H p=some o)(hn:p∉r):p∉r1/\H1 p=some o:=by
 refine⟨λz=>?_,f.keep p o hp hn⟩;rcases f.new p z with q|q
 .exact hn q
 .rw[hp]at q;cases q
def HR.known{p:Addr}{ds:List Ev.D}{vs:List V}(hr:HR K H r h)(hp:H p=some (.lst vs))(hn:p∉r)(q:aG K H r ds vs):HR K H (r++[p]) (h++[.lst ds]):=by
 have pre:∀(n:Nat) a,r[n]?=some a->(r++[p])[n]?=some a:=λn a e=>by rw[Xk (List.getElem?_eq_some_iff.mp e).1];exact e
 refine⟨by simp[hr.len],λn ob e=>?_,λn m a x y e1 e2 e3 e4=>?_
  ⟩
 .by_cases hk:n<h.length
  .rw[Xk hk]at e;obtain⟨a,e1,z⟩:=hr.ob n ob e;refine⟨a,pre n a e1,?_⟩;cases ob with
   |lst ds=>obtain⟨us,e2,e3⟩:=z;exact⟨us,e2,e3.grow pre λ_ _ z=>z⟩
   |bU ds=>obtain⟨us,e2,e3⟩:=z;exact⟨us,e2,e3.grow pre λ_ _ z=>z⟩
  .have e2:=(List.getElem?_eq_some_iff.mp e).1;simp only[Yt,aa6]at e2;have e3:n=h.length:=by omega
   subst e3;simp at e;subst e;exact⟨p,by rw[<-hr.len];simp,vs,hp,q.grow pre λ_ _ z=>z⟩
 .have out:∀(k:Nat) z,(h++[Ev.O.lst ds])[k]?=some (.lst z)->(r++[p])[k]?=some a->(k<h.length/\r[k]?=some a/\h[k]?=some (.lst z)/\a≠p)\/(k=h.length/\a=p):=λk z q1 q2=>by
   by_cases hk:k<h.length
   .rw[Xk hk]at q1;rw[Xk (by rw[hr.len];exact hk)]at q2;exact .inl ⟨hk,q2,q1,λz=>hn (by rw[<-z];exact aam q2)⟩
   .have e5:=(List.getElem?_eq_some_iff.mp q1).1;simp only[Yt,aa6]at e5;have e6:k=r.length:=by rw[hr.len];omega
    subst e6;simp at q2;exact .inr ⟨hr.len,q2.symm⟩
  rcases out n x e3 e1 with ⟨h1,h2,h3,h4⟩|⟨h1,h2⟩
  .rcases out m y e4 e2 with ⟨k1,k2,k3,k4⟩|⟨k1,k2⟩
   .exact hr.inj n m a x y h2 k2 h3 k3
   .exact absurd k2 h4
  .rcases out m y e4 e2 with ⟨k1,k2,k3,k4⟩|⟨k1,k2⟩
   .exact absurd h2 k4
   .rw[h1,k1]
def Fm.known{p:Addr}(f:Fm K r r1 H H1)(h0:H p=none):Fm K r (r1++[p]) H H1 where
 pre:=λn a e=>by
  have e':=f.pre n a e;rw[Xk (List.getElem?_eq_some_iff.mp e').1];exact e'
 new:=λa e=>by
  rcases List.mem_append.mp e with q|q
  .exact f.new a q
  .rw[abj]at q;subst q;exact .inr h0
 keep:=f.keep
 tups:=f.tups
end
end Sm
namespace Sm
open PySem PySem.Spec PyProof.Rows L2
open Ev (D O Hh Fr R aP E Es Eo It T S Ss Fl Src bJ bx TY BI ME)
section
variable(K:PySem.W.Frag)
noncomputable def Res(r:List Addr)(H:Hp)(h':Hh)(d:D)(Q:VK):Prop:=∀v H' r',RV K H' r' d v->HR K H' r' h'->Fm K r r' H H'->Q v H'
structure SR(m:List Nat)(H:Hp)(r:List Addr)(fr:Fr)(s:L2.St):Prop where
 len:s.length=m.length
 sl:∀(j i:Nat) d,m[j]?=some i->fr[i]?=some (some d)->∃v,s[j]?=some (some v)/\RV K H r d v
inductive tJ(m:List Nat)(P:aP)(e:E)(s:L2.St)(H:Hp)(Q:VK):Prop
 |mk (r:List Addr) (fr:Fr) (h:Hh) (d:D) (h':Hh) (c0:SR K m H r fr s) (c1:HR K H r h) (c2:Ev.ev P e fr h=.ok d h') (c3:Res K r H h' d Q):tJ m P e s H Q
inductive Gk(m:List Nat)(P:aP)(e:E)(s:L2.St)(H:Hp)(Q:Bool->Hp->Prop):Prop
 |mk (r:List Addr) (fr:Fr) (h:Hh) (k:Bool) (h':Hh) (c0:SR K m H r fr s) (c1:HR K H r h) (c2:Ev.aN P e fr h=.ok k h') (c3:∀H' r',HR K H' r' h'->Fm K r r' H H'->Q k H'):Gk m P e s H Q
inductive K5(m:List Nat)(P:aP)(es:Es)(s:L2.St)(H:Hp)(Q:List V->Hp->Prop):Prop
 |mk (r:List Addr) (fr:Fr) (h:Hh) (ds:List D) (h':Hh) (c0:SR K m H r fr s) (c1:HR K H r h) (c2:Ev.cC P es fr h=.ok ds h') (c3:∀vs H' r',aG K H' r' ds vs->HR K H' r' h'->Fm K r r' H H'->Q vs H'):K5 m P es s H Q
inductive TZ(m:List Nat)(P:aP)(e:Eo)(s:L2.St)(H:Hp)(Q:Option Int->Hp->Prop):Prop
 |mk (r:List Addr) (fr:Fr) (h:Hh) (o:Option Int) (h':Hh) (c0:SR K m H r fr s) (c1:HR K H r h) (c2:Ev.gr P e fr h=.ok o h') (c3:∀H' r',HR K H' r' h'->Fm K r r' H H'->Q o H'):TZ m P e s H Q
inductive fT(f:D->D->Hh->R D)(x:V)(y:V)(H:Hp)(Q:VK):Prop
 |mk (r:List Addr) (h:Hh) (a:D) (b:D) (d:D) (h':Hh) (c0:HR K H r h) (c1:RV K H r a x) (c2:RV K H r b y) (c3:f a b h=.ok d h') (c4:Res K r H h' d Q):fT f x y H Q
inductive oV(f:List D->Hh->R D)(xs:List V)(H:Hp)(Q:VK):Prop
 |mk (r:List Addr) (h:Hh) (as:List D) (d:D) (h':Hh) (c0:HR K H r h) (c1:aG K H r as xs) (c2:f as h=.ok d h') (c3:Res K r H h' d Q):oV f xs H Q
inductive oW(f:D->List D->Hh->R D)(x:V)(xs:List V)(H:Hp)(Q:VK):Prop
 |mk (r:List Addr) (h:Hh) (a:D) (as:List D) (d:D) (h':Hh) (c0:HR K H r h) (c1:RV K H r a x) (c2:aG K H r as xs) (c3:f a as h=.ok d h') (c4:Res K r H h' d Q):oW f x xs H Q
inductive K6  (x:V) (lo:Option Int) (hi:Option Int) (H:Hp) (Q:VK):Prop
 |mk (r:List Addr) (h:Hh) (a:D) (d:D) (h':Hh) (c0:HR K H r h) (c1:RV K H r a x) (c2:Ev.eV a lo hi h=.ok d h') (c3:Res K r H h' d Q):K6 x lo hi H Q
end
section
variable{K:PySem.W.Frag}{m:List Nat}{H H':Hp}{r r':List Addr}{fr:Fr}{s:L2.St}{h h':Hh}{d:D}{Q:VK}
theorem SR.mono(a:SR K m H r fr s)(f:Fm K r r' H H'):SR K m H' r' fr s:=⟨a.len,λj i d e1 e2=>by
 obtain⟨v,q,z⟩:=a.sl j i d e1 e2;exact⟨v,q,z.mono f⟩⟩
def Res.here{v:V}(q:Res K r H h d Q)(a:RV K H r d v)(b:HR K H r h):Q v H:=q v H r a b .refl
def Res.later(q:Res K r H h' d Q)(f:Fm K r r' H H'):Res K r' H' h' d Q:=λv H2 r2 a b g=>q v H2 r2 a b (f.trans g)
theorem Res.lst{ds:List D}{vs:List V}(q:Res K r H h' d Q)(e:Ev.alloc ds h=.ok d h')(a:aG K H r ds vs)(b:HR K H r h):vs.length<=sizeLine/\∀p,H p=none->Q (.ref p) (upd H p (.lst vs)):=by
 unfold Ev.alloc at e;split at e
 .rename_i z;cases e;refine⟨by rw[a.length,<-jX];exact z,λp hp=>?_⟩;exact q _ _ (r++[p]) ⟨p,rfl,by rw[<-b.len];simp⟩ (b.lst hp a) (.laid hp)
 .cases e
theorem Res.tup{ds:List D}{vs:List V}(q:Res K r H h (.tup ds) Q)(a:aG K H r ds vs)(b:HR K H r h){p:Addr}(hp:H p=none):Q (.ref p) (upd H p (.tup vs)):=
 q _ _ r ⟨p,vs,rfl,.of g8,a.mono (.tup hp)⟩ (b.tup hp) (.tup hp)
end
def PE.of{X:Cx}{e:Expr}{t t':TE}(h:PE X e t)(w:∀s H Q,t' s H Q->t s H Q):PE X e t':=λpins s σ H Q I q=>h pins s σ H Q I (w _ _ _ q)
def PT.of{X:Cx}{e:Expr}{t t':TT}(h:PT X e t)(w:∀s H Q,t' s H Q->t s H Q):PT X e t':=λpins s σ H Q I q=>h pins s σ H Q I (w _ _ _ q)
def PW.of{X:Cx}{e:Expr}{t t':TT}(h:PW X e t)(w:∀s H Q,t' s H Q->t s H Q):PW X e t':=λwh pins s σ H Q I q=>h wh pins s σ H Q I (w _ _ _ q)
def PA.of{X:Cx}{es:List Expr}{t t':TA}(h:PA X es t)(w:∀s H Q,t' s H Q->t s H Q):PA X es t':=λpos pins s σ H Q I q=>h pos pins s σ H Q I (w _ _ _ q)
def PO.of{X:Cx}{e:Option Expr}{t t':TO}(h:PO X e t)(w:∀s H Q,t' s H Q->t s H Q):PO X e t':=λpins s σ H Q I q=>h pins s σ H Q I (w _ _ _ q)
structure FI where
 name:Str
 addr:Addr
 fd:FuncData
 ps:List Str
noncomputable def oX(K:PySem.W.Frag)(F:List Ev.Fn)(w n f:Nat):Sp:=λvs H Q _=>∃r h ds d h',aG K H r ds vs/\HR K H r h/\Ev.run F w n f ds h=.ok d h'/\Res K r H h' d Q
noncomputable def yx(K:PySem.W.Frag)(d:D)(v:V):Prop:=∀H r,RV K H r d v
def yx.rv{K:PySem.W.Frag}{H:Hp}{r:List Addr}{d:D}{v:V}(h:yx K d v):RV K H r d v:=h H r
structure Tb where
 F:List Ev.Fn
 w:Nat
 fi:List FI
 bl:List Str
 cs:List (Str×D)
 dk:List (Str×List (D×D))
noncomputable def tabOf:List (D×D)->List (PyData×PyData)
 | (.str k,.str v) :: r=>(.str (aB k),.str (aB v)) :: tabOf r
 |_=>[]
structure Good(G:Tb)(n:Nat)(sc:Scope)(N:List Str)(df:Bool)(X:Cx):Prop where
 nm:X.N=N
 sc:X.env.scope=sc
 calm:X.calm=true
 own:df=true->∀x,X.fn x=true
 room:g9 n X.A
 xe:X.xe=λ_ _=>False
 fn:∀(f:Nat) i,G.fi[f]?=some i->X.mg i.name=some (.ref i.addr)/\PySem.W.keepIn X.K (.ref i.addr)=true/\Binds X.K i.fd i.ps []/\iW X.prog X.w X.K X.mg X.base ng n i.addr i.fd i.ps (oX X.K G.F G.w n f)
 bl:∀x∈G.bl,X.mg x=none
 cs:∀x d,(x,d)∈G.cs->∃v u,X.mg x=some u/\RelV v u/\yx X.K d v
 dk:∀x kvs,(x,kvs)∈G.dk->∃a,X.mg x=some (.ref a)/\∀h:Heap,X.K.In h->StrTab X.prog X.w h a (tabOf kvs)
section
variable(G:Tb)(n:Nat)(sc:Scope)(N:List Str)(df:Bool)(m:List Nat)
noncomputable def JE(e:E)(x:Expr):Prop:=∀X,Good G n sc N df X->PE X x (tJ X.K m (Ev.run G.F G.w n) e)
noncomputable def JT(e:E)(x:Expr):Prop:=∀X,Good G n sc N df X->PT X x (Gk X.K m (Ev.run G.F G.w n) e)
noncomputable def JW(e:E)(x:Expr):Prop:=∀X,Good G n sc N df X->PW X x (Gk X.K m (Ev.run G.F G.w n) e)
noncomputable def JA(es:Es)(xs:List Expr):Prop:=∀X,Good G n sc N df X->PA X xs (K5 X.K m (Ev.run G.F G.w n) es)
noncomputable def JO(e:Eo)(x:Option Expr):Prop:=∀X,Good G n sc N df X->PO X x (TZ X.K m (Ev.run G.F G.w n) e)
end
section
variable{G:Tb}{n:Nat}{sc:Scope}{N:List Str}{df:Bool}{m:List Nat}{a b c:E}{xa xb:Expr}{pos:Pos}
def Good.vis{X:Cx}(g:Good G n sc N df X){x:Str}(h:sc.names.lookup x=some .local\/sc.names.lookup x=some .cell\/sc.names.lookup x=some .free):A8 X.env.scope x:=by
 rw[g.sc];exact h
def Good.gl{X:Cx}(g:Good G n sc N df X){x:Str}(h:sc.names.lookup x=some .globalImplicit):Gl X x:=by
 unfold Gl Env.kindOf;rw[g.sc];exact h
def Wc(j i:Nat){x:Str}(hj:m[j]?=some i:=by rfl)(hN:N[j]?=some x:=by rfl)
  (hv:sc.names.lookup x=some .local\/sc.names.lookup x=some .cell\/sc.names.lookup x=some .free:=by first|exact Or.inl rfl|exact Or.inr (Or.inl rfl)|exact Or.inr (Or.inr rfl))
  (hd:(x==("__debug__" : Str))=false:=by decide) (hcd:(x==("__classdict__" : Str))=false:=by decide):JE G n sc N df m (.v i) (.Name x pos):=by
 intro X g;refine PE.of (Ba (i:=j) (by rw[g.nm];exact hN) (g.vis hv) hd hcd) λs H Q q=>?_;obtain⟨r,fr,h,d,h',sr,hr,e,q⟩:=q;simp only[Ev.ev]at e;obtain⟨e2,e3⟩:=Ev.aI e;subst e3;obtain⟨v,q1,q2⟩:=sr.sl j i d hj (by
  cases z:fr[i]? with
  |none=>rw[z]at e2;cases e2
  |some o=>
   rw[z]at e2;have e':o=some d:=e2;rw[e'])
 exact⟨v,q1,q.here q2 hr⟩
def ql{K:PySem.W.Frag}{P:aP}{d:D}{v:V}(hc:yx K d v):∀s H Q,tJ K m P (.c d) s H Q->tC v s H Q:=λs H Q q=>by
 obtain⟨r,fr,h,d',h',sr,hr,e,q⟩:=q;simp only[Ev.ev]at e;cases e;exact q.here hc.rv hr
def Bw{i:Int}{j}:JE G n sc N df m (.c (.int i)) (.Constant (.int i) j pos):=λX g=>PE.of Kd (ql λ_ _=>rfl)
def Qw{k:Bool}{j}:JE G n sc N df m (.c (.bl k)) (.Constant (.bool k) j pos):=λX g=>PE.of P8 (ql λ_ _=>rfl)
def K7{j}:JE G n sc N df m (.c .bz) (.Constant .none j pos):=λX g=>PE.of Ke (ql λ_ _=>rfl)
def K8{l:List Nat}{x:Str}{j}(hx:x=aB l:=by decide +kernel)(hl:l.length<=sizeLine:=by decide):JE G n sc N df m (.c (.str l)) (.Constant (.str x) j pos):=
 λX g=>PE.of Kf (ql λ_ _=>by subst hx;exact⟨rfl,hl⟩)
def iX {x:Str}{d:D}(hm:(x,d)∈G.cs) (hg:sc.names.lookup x=some .globalImplicit:=by rfl) (hd:(x==("__debug__" : Str))=false:=by decide):JE G n sc N df m (.c d) (.Name x pos):=λX g=>by
 obtain⟨v,u,h1,h2,h3⟩:=g.cs x d hm;exact PE.of (rK (g.gl hg) h1 h2 hd) (ql h3)
def K9:JA G n sc N df m .nil []:=λX g=>PA.of qi λs H Q q=>by
 obtain⟨r,fr,h,ds,h',sr,hr,e,q⟩:=q;simp only[Ev.cC]at e;cases e;exact q [] H r .nil hr .refl
def HU{es:Es}{xs:List Expr}(ha:JE G n sc N df m a xa)(hs:JA G n sc N df m es xs)(hst:∀env:Env,starEach (xa :: xs) env=(false,eval xa env) :: starEach xs env:=by intro _;rfl):JA G n sc N df m (.cons a es) (xa :: xs):=
 λX g=>PA.of (lG (ha X g) (hs X g) (hst _)) λs H Q q=>by
  obtain⟨r,fr,h,ds,h',sr,hr,e,q⟩:=q;simp only[Ev.cC]at e;obtain⟨d,h1,e1,e⟩:=Ev.ai e;obtain⟨ds',h2,e2,e⟩:=Ev.ai e;cases e;refine⟨r,fr,h,d,h1,sr,hr,e1,λv H1 r1 v1 hr1 f1=>?_⟩;refine⟨r1,fr,h1,ds',_,sr.mono f1,hr1,e2,λvs H2 r2 v2 hr2 f2=>?_⟩;exact q _ H2 r2 (.cons (v1.mono f2) v2) hr2 (f1.trans f2)
def La{es:Es}{xs:List Expr}{k}(hs:JA G n sc N df m es xs):JE G n sc N df m (.tup es) (.Tuple xs k pos):=λX g=>PE.of (KJ (hs X g)) λs H Q q=>by
 obtain⟨r,fr,h,d,h',sr,hr,e,q⟩:=q;simp only[Ev.ev]at e;obtain⟨ds,h1,e1,e⟩:=Ev.ai e;split at e
 .rename_i z;cases e;refine⟨r,fr,h,ds,_,sr,hr,e1,λvs H1 r1 v1 hr1 f1=>⟨by rw[v1.length,<-jX];exact z,λp hp=>?_⟩⟩;exact(q.later f1).tup v1 hr1 hp
 .cases e
def Lb{es:Es}{xs:List Expr}(hs:JA G n sc N df m es xs):JE G n sc N df m (.lst es) (.List xs pos):=λX g=>PE.of (KL (hs X g)) λs H Q q=>by
 obtain⟨r,fr,h,d,h',sr,hr,e,q⟩:=q;simp only[Ev.ev]at e;obtain⟨ds,h1,e1,e⟩:=Ev.ai e;refine⟨r,fr,h,ds,h1,sr,hr,e1,λvs H1 r1 v1 hr1 f1=>?_⟩;exact(q.later f1).lst e v1 hr1
def qm{K:PySem.W.Frag}{P:aP}{f:D->D->Hh->R D}{e':E}(he:∀fr h,Ev.ev P e' fr h=(Ev.ev P a fr h).bind λx h1=>(Ev.ev P b fr h1).bind λy h2=>f x y h2) :
  ∀s H Q,tJ K m P e' s H Q->Bh (fT K f) (tJ K m P a) (tJ K m P b) s H Q:=λs H Q q=>by
 obtain⟨r,fr,h,d,h',sr,hr,e,q⟩:=q;rw[he]at e;obtain⟨x,h1,e1,e⟩:=Ev.ai e;obtain⟨y,h2,e2,e⟩:=Ev.ai e;refine⟨r,fr,h,x,h1,sr,hr,e1,λv H1 r1 v1 hr1 f1=>?_⟩;refine⟨r1,fr,h1,y,h2,sr.mono f1,hr1,e2,λu H2 r2 v2 hr2 f2=>?_⟩;exact⟨r2,h2,x,y,d,h',hr2,v1.mono f2,v2,e,q.later (f1.trans f2)⟩
def nh{o:bJ}{op:Operator}(ho:∀X,Good G n sc N df X->cV X (binaryOp op) (fT X.K (Ev.bV o)))(ha:JE G n sc N df m a xa)(hb:JE G n sc N df m b xb):JE G n sc N df m (.bin o a b) (.BinOp xa op xb pos):=
 λX g=>PE.of (Qj (ho X g) (ha X g) (hb X g)) (qm λfr h=>by simp only[Ev.ev])
noncomputable def eK(o:bx):D->D->Hh->R D:=λx y h=>R.of ((Ev.cop o x y h).map .bl) h
def vA{o:bx}{op:CmpOp}(ho:∀X,Good G n sc N df X->cV X (compareOp op) (fT X.K (eK o)))(ha:JE G n sc N df m a xa)(hb:JE G n sc N df m b xb)(hm:behindInMarks op xb=false):JE G n sc N df m (.cmp o a b) (.Compare xa [op] [xb] pos):=
 λX g=>PE.of (HB (ho X g) (ha X g) (hb X g) hm) (qm λfr h=>by simp only[Ev.ev,eK])
def iY{o:bx}{x y d:D}{h h':Hh}(e:eK o x y h=.ok d h'):∃k,Ev.cop o x y h=some k/\d=.bl k/\h'=h:=by
 unfold eK at e;obtain⟨e1,rfl⟩:=Ev.aI e;cases z:Ev.cop o x y h' with
 |none=>rw[z]at e1;cases e1
 |some k=>rw[z]at e1;cases e1;exact⟨k,rfl,rfl,rfl⟩
def ni{o:bx}{op:CmpOp}(ho:∀X,Good G n sc N df X->cV X (compareOp op) (fT X.K (eK o)))(ha:JE G n sc N df m a xa)(hb:JE G n sc N df m b xb)(hm:behindInMarks op xb=false):JT G n sc N df m (.cmp o a b) (.Compare xa [op] [xb] pos):=
 λX g=>PT.of (HC (ho X g) (ha X g) (hb X g) hm) λs H Q q=>by
  obtain⟨r,fr,h,k,h',sr,hr,e,q⟩:=q;simp only[Ev.aN]at e;obtain⟨d,h1,e1,e⟩:=Ev.ai e;have e0:=e1;simp only[Ev.ev]at e0;obtain⟨x,h2,_,e0⟩:=Ev.ai e0;obtain⟨y,h3,_,e0⟩:=Ev.ai e0;obtain⟨k',e2,e3,e4⟩:=iY (o:=o) (show eK o x y h3=_ from e0);subst e3;simp only[Ev.truthy]at e;cases e;refine qm (e':=.cmp o a b) (f:=eK o) (λfr h=>by simp only[Ev.ev,eK]) s H _ ⟨r,fr,h,.bl k,_,sr,hr,e1,λv H1 r1 v1 hr1 f1=>?_⟩;exact⟨k,v1,q H1 r1 hr1 f1⟩
def Gm{K:PySem.W.Frag}{P:aP}{o p:bx}:∀s H Q,tJ K m P (.ch o p a b c) s H Q->vg (fT K (eK o)) (fT K (eK p)) (tJ K m P a) (tJ K m P b) (tJ K m P c) s H Q:=λs H Q q=>by
 obtain⟨r,fr,h,d,h',sr,hr,e,q⟩:=q;simp only[Ev.ev]at e;obtain⟨x,h1,e1,e⟩:=Ev.ai e;obtain⟨y,h2,e2,e⟩:=Ev.ai e;obtain⟨k,h3,e3,e⟩:=Ev.ai e;obtain⟨e3,e4⟩:=Ev.aI e3;subst e4;refine⟨r,fr,h,x,h1,sr,hr,e1,λv H1 r1 v1 hr1 f1=>?_⟩;refine⟨r1,fr,h1,y,h3,sr.mono f1,hr1,e2,λu H2 r2 v2 hr2 f2=>?_⟩;refine⟨r2,h3,x,y,.bl k,h3,hr2,v1.mono f2,v2,by simp[eK,e3],λw H3 r3 v3 mW f3=>?_⟩;refine⟨k,v3,?_⟩;cases k with
 |false=>
  simp only[aai,aaL]at e;cases e;exact(q.later ((f1.trans f2).trans f3)).here rfl mW
 |true=>
  simp only[aal]at e;obtain⟨z,h4,e5,e⟩:=Ev.ai e;refine⟨r3,fr,h3,z,h4,((sr.mono f1).mono f2).mono f3,mW,e5,λt H4 r4 v4 Gn f4=>?_⟩;exact⟨r4,h4,y,z,d,h',Gn,(v2.mono f3).mono f4,v4,e,q.later (((f1.trans f2).trans f3).trans f4)⟩
end
section
variable{G:Tb}{n:Nat}{sc:Scope}{N:List Str}{df:Bool}{m:List Nat}{a b c:E}{xa xb xc:Expr}{pos:Pos}
def Qx{o p:bx}{op op':CmpOp}(ho:∀X,Good G n sc N df X->cV X (compareOp op) (fT X.K (eK o)))(hp:∀X,Good G n sc N df X->cV X (compareOp op') (fT X.K (eK p)))
  (ha:JE G n sc N df m a xa) (hb:JE G n sc N df m b xb) (hc:JE G n sc N df m c xc) (hm:lastMarks [op,op'] [xb,xc]=false:=by with_unfolding_all rfl):JE G n sc N df m (.ch o p a b c) (.Compare xa [op,op'] [xb,xc] pos):=
 λX g=>PE.of (DB (ho X g) (hp X g) (ha X g) (hb X g) (hc X g) hm) Gm
def Qy{K:PySem.W.Frag}{P:aP}{e':E}{t:TE}(h:∀s H Q,tJ K m P e' s H Q->t s H Q)(hb:∀fr h d h',Ev.ev P e' fr h=.ok d h'->∃k,d=.bl k)
  (ht:∀fr h,Ev.aN P e' fr h=(Ev.ev P e' fr h).bind λx h1=>R.of (Ev.truthy h1 x) h1):∀s H Q,Gk K m P e' s H Q->zH t s H Q:=λs H Q q=>by
 obtain⟨r,fr,h1,k,h',sr,hr,e,q⟩:=q;rw[ht]at e;obtain⟨d,h2,e1,e⟩:=Ev.ai e;obtain⟨k',e2⟩:=hb _ _ _ _ e1;subst e2;simp only[Ev.truthy]at e;cases e;exact h s H _ ⟨r,fr,h1,.bl k,_,sr,hr,e1,λv H1 r1 v1 hr1 f1=>⟨k,v1,q H1 r1 hr1 f1⟩⟩
def Qz{P:aP}{o p:bx}(fr:Fr)(h:Hh)(d:D)(h':Hh)(e:Ev.ev P (.ch o p a b c) fr h=.ok d h'):∃k,d=.bl k:=by
 simp only[Ev.ev]at e;obtain⟨x,h1,e1,e⟩:=Ev.ai e;obtain⟨y,h2,e2,e⟩:=Ev.ai e;obtain⟨k,h3,e3,e⟩:=Ev.ai e;split at e
 .obtain⟨z,h4,e5,e⟩:=Ev.ai e;obtain⟨k',_,e6,_⟩:=iY (o:=p) (show eK p y z h4=_ from e);exact⟨k',e6⟩
 .cases e;exact⟨false,rfl⟩
def QA{o p:bx}{op op':CmpOp}(ho:∀X,Good G n sc N df X->cV X (compareOp op) (fT X.K (eK o)))(hp:∀X,Good G n sc N df X->cV X (compareOp op') (fT X.K (eK p)))
  (ha:JE G n sc N df m a xa) (hb:JE G n sc N df m b xb) (hc:JE G n sc N df m c xc) (hm:lastMarks [op,op'] [xb,xc]=false:=by with_unfolding_all rfl):JT G n sc N df m (.ch o p a b c) (.Compare xa [op,op'] [xb,xc] pos):=
 λX g=>PT.of (DC (ho X g) (hp X g) (ha X g) (hb X g) (hc X g) hm) (Qy Gm Qz λfr h=>by simp only[Ev.aN])
def Bx(ha:JE G n sc N df m a xa):JE G n sc N df m (.neg a) (.UnaryOp .USub xa pos):=λX g=>PE.of (Qk KG (ha X g)) λs H Q q=>by
 obtain⟨r,fr,h,d,h',sr,hr,e,q⟩:=q;simp only[Ev.ev]at e;obtain⟨x,h1,e1,e⟩:=Ev.ai e;split at e
 .cases e;exact⟨r,fr,h,_,_,sr,hr,e1,λv H1 r1 v1 hr1 f1=>⟨_,v1,(q.later f1).here rfl hr1⟩⟩
 .cases e
def Lc{op}(ha:JE G n sc N df m a xa):JE G n sc N df m a (.BoolOp op [xa] pos):=λX g=>Kn (ha X g)
def QB{rest:List Expr}(ha:JE G n sc N df m a xa)(hb:JE G n sc N df m b (.BoolOp .And (xb :: rest) pos)):JE G n sc N df m (.an a b) (.BoolOp .And (xa :: xb :: rest) pos):=λX g=>PE.of (Ko (ha X g) (hb X g)) λs H Q q=>by
 obtain⟨r,fr,h,d,h',sr,hr,e,q⟩:=q;simp only[Ev.ev]at e;obtain⟨x,h1,e1,e⟩:=Ev.ai e;refine⟨r,fr,h,x,h1,sr,hr,e1,λv H1 r1 v1 hr1 f1=>?_⟩;split at e
 .exact⟨true,v1,r1,fr,h1,d,h',sr.mono f1,hr1,e,q.later f1⟩
 .cases e;exact⟨false,v1,(q.later f1).here rfl hr1⟩
 .cases e
def Ld(ha:JT G n sc N df m a xa)(hb:JE G n sc N df m b xb)(hc:JE G n sc N df m c xc):JE G n sc N df m (.iU a b c) (.IfExp xa xb xc pos):=λX g=>PE.of (Dr (ha X g) (hb X g) (hc X g)) λs H Q q=>by
 obtain⟨r,fr,h,d,h',sr,hr,e,q⟩:=q;simp only[Ev.ev]at e;obtain⟨k,h1,e1,e⟩:=Ev.ai e;refine⟨r,fr,h,k,h1,sr,hr,e1,λH1 r1 hr1 f1=>?_⟩;cases k with
 |true=>exact⟨r1,fr,h1,d,h',sr.mono f1,hr1,e,q.later f1⟩
 |false=>exact⟨r1,fr,h1,d,h',sr.mono f1,hr1,e,q.later f1⟩
def Le(h:JW G n sc N df m a xa):JT G n sc N df m a xa:=λX g=>(h X g).pt
def Lf(ha:JT G n sc N df m a xa):JW G n sc N df m a (.BoolOp .And [xa] pos):=λX g=>Hw (ha X g)
def HV(ha:JT G n sc N df m a xa):JW G n sc N df m a (.BoolOp .Or [xa] pos):=λX g=>Kh (ha X g)
def Gp{rest:List Expr}(ha:JT G n sc N df m a xa)(hb:JW G n sc N df m b (.BoolOp .And (xb :: rest) pos)):JW G n sc N df m (.an a b) (.BoolOp .And (xa :: xb :: rest) pos):=λX g=>PW.of (Kl (ha X g) (hb X g)) λs H Q q=>by
 obtain⟨r,fr,h,k,h',sr,hr,e,q⟩:=q;simp only[Ev.aN]at e;obtain⟨k1,h1,e1,e⟩:=Ev.ai e;refine⟨r,fr,h,k1,h1,sr,hr,e1,λH1 r1 hr1 f1=>?_⟩;cases k1 with
 |true=>exact⟨r1,fr,h1,k,h',sr.mono f1,hr1,e,λH2 r2 hr2 f2=>q H2 r2 hr2 (f1.trans f2)⟩
 |false=>
  have e':R.ok false h1=R.ok k h':=e;cases e';exact q H1 r1 hr1 f1
def By{rest:List Expr}(ha:JT G n sc N df m a xa)(hb:JW G n sc N df m b (.BoolOp .Or (xb :: rest) pos)):JW G n sc N df m (.orr a b) (.BoolOp .Or (xa :: xb :: rest) pos):=λX g=>PW.of (P9 (ha X g) (hb X g)) λs H Q q=>by
 obtain⟨r,fr,h,k,h',sr,hr,e,q⟩:=q;simp only[Ev.aN]at e;obtain⟨k1,h1,e1,e⟩:=Ev.ai e;refine⟨r,fr,h,k1,h1,sr,hr,e1,λH1 r1 hr1 f1=>?_⟩;cases k1 with
 |false=>exact⟨r1,fr,h1,k,h',sr.mono f1,hr1,e,λH2 r2 hr2 f2=>q H2 r2 hr2 (f1.trans f2)⟩
 |true=>
  have e':R.ok true h1=R.ok k h':=e;cases e';exact q H1 r1 hr1 f1
def QC(ha:JT G n sc N df m a xa):JT G n sc N df m (.nt a) (.UnaryOp .Not xa pos):=λX g=>PT.of (Km (ha X g)) λs H Q q=>by
 obtain⟨r,fr,h,k,h',sr,hr,e,q⟩:=q;simp only[Ev.aN]at e;obtain⟨k1,h1,e1,e⟩:=Ev.ai e;cases e;exact⟨r,fr,h,k1,_,sr,hr,e1,λH1 r1 hr1 f1=>q H1 r1 hr1 f1⟩
def Lh{K:PySem.W.Frag}{H:Hp}{r:List Addr}{h:Hh}{d:D}{v:V}{k:Bool}(hr:HR K H r h)(v1:RV K H r d v)(e:Ev.truthy h d=some k):DE K v H k:=by
 cases d with
 |bz=>simp only[RV]at v1;subst v1;cases e;rfl
 |bl x=>simp only[RV]at v1;subst v1;cases e;rfl
 |int x=>simp only[RV]at v1;subst v1;cases e;rfl
 |str x=>
  simp only[RV]at v1;obtain⟨rfl,z⟩:=v1;cases e;refine⟨by rw[bf];exact z,?_⟩;rw[bf];cases x with
  |nil=>rfl
  |cons c l=>simp;omega
 |tup ds=>
  simp only[RV]at v1;obtain⟨p,vs,rfl,z,q⟩:=v1;cases e;refine .inr (.inl ⟨vs,z,?_⟩);have hl:=q.length;cases ds<;>cases vs<;>simp_all
 |ref i=>
  simp only[RV]at v1;obtain⟨p,rfl,z⟩:=v1;have et:Ev.truthy h (.ref i)=(Ev.bA h i).map λds=>!ds.isEmpty:=by
   first
    |rfl
    | (simp only[Ev.truthy];split<;>first|rfl | (rename_i kvs z;first|exact(Y8 ⟨kvs,z⟩).elim|exact(hss ⟨kvs,z⟩).elim))
  rw[et]at e;simp only[gV]at e;obtain⟨ds,e1,rfl⟩:=e;obtain⟨p',vs,e2,q1,q2⟩:=hr.read e1;rw[z]at e2;cases e2;refine .inl ⟨vs,q1,?_⟩;have hl:=q2.length;cases ds<;>cases vs<;>simp_all
def Li(ha:JE G n sc N df m a xa)(he:∀(P:aP) fr h,Ev.aN P a fr h=(Ev.ev P a fr h).bind λx h1=>R.of (Ev.truthy h1 x) h1:=by intros;simp only[Ev.aN])
  (hx:∀(env:Env) whole,isTrue xa env whole=(do let v <-whole;standAt xa.pos;holding [v] (truthy v)):=by intro _ _;rfl):JT G n sc N df m a xa:=λX g=>PT.of (DF (ha X g) (hx _)) λs H Q q=>by
 obtain⟨r,fr,h,k,h',sr,hr,e,q⟩:=q;rw[he]at e;obtain⟨d,h1,e1,e⟩:=Ev.ai e;obtain⟨e,rfl⟩:=Ev.aI e;refine⟨r,fr,h,d,_,sr,hr,e1,λv H1 r1 v1 hr1 f1=>⟨k,Lh hr1 v1 e,q H1 r1 hr1 f1⟩⟩
noncomputable def Lj:D->D->Hh->R D:=λx y h=>R.of (Ev.gf x y h) h
def QD(ho:∀X,Good G n sc N df X->yu X (fT X.K Lj))(ha:JE G n sc N df m a xa)(hb:JE G n sc N df m b xb)(hs:rN xb:=by intro _ _;rfl):JE G n sc N df m (.ix a b) (.Subscript xa xb pos):=
 λX g=>PE.of (Qu (ho X g) (ha X g) (hb X g) hs) (qm λfr h=>by simp only[Ev.ev,Lj])
def QE:JO G n sc N df m .no none:=λX g=>PO.of HH λs H Q q=>by
 obtain⟨r,fr,h,o,h',sr,hr,e,q⟩:=q;simp only[Ev.gr]at e;cases e;exact q H r hr .refl
def Lk(ha:JE G n sc N df m a xa):JO G n sc N df m (.yes a) (some xa):=λX g=>PO.of (yr (ha X g)) λs H Q q=>by
 obtain⟨r,fr,h,o,h',sr,hr,e,q⟩:=q;simp only[Ev.gr]at e;obtain⟨d,h1,e1,e⟩:=Ev.ai e;obtain⟨e,rfl⟩:=Ev.aI e;cases d with
 |int i=>
  cases e;exact⟨r,fr,h,.int i,_,sr,hr,e1,λv H1 r1 v1 hr1 f1=>⟨i,v1,q H1 r1 hr1 f1⟩⟩
 |_=>cases e
def QF{lo hi:Eo}{xl xh:Option Expr}{p2}(ho:∀X,Good G n sc N df X->lI X (K6 X.K))(ha:JE G n sc N df m a xa)(hl:JO G n sc N df m lo xl)(hu:JO G n sc N df m hi xh):JE G n sc N df m (.sl a lo hi) (.Subscript xa (.Slice xl xh none p2) pos):=
 λX g=>PE.of (DI (ho X g) (ha X g) (hl X g) (hu X g)) λs H Q q=>by
  obtain⟨r,fr,h,d,h',sr,hr,e,q⟩:=q;simp only[Ev.ev]at e;obtain⟨x,h1,e1,e⟩:=Ev.ai e;obtain⟨l,h2,e2,e⟩:=Ev.ai e;obtain⟨u,h3,e3,e⟩:=Ev.ai e;refine⟨r,fr,h,x,h1,sr,hr,e1,λv H1 r1 v1 hr1 f1=>?_⟩;refine⟨r1,fr,h1,l,h2,sr.mono f1,hr1,e2,λH2 r2 hr2 f2=>?_⟩;refine⟨r2,fr,h2,u,h3,(sr.mono f1).mono f2,hr2,e3,λH3 r3 mW f3=>?_⟩;exact⟨r3,h3,x,d,h',mW,(v1.mono f2).mono f3,e,q.later ((f1.trans f2).trans f3)⟩
def yy{K:PySem.W.Frag}{P:aP}{es:Es}{f:List D->Hh->R D}{e':E}(he:∀fr h,Ev.ev P e' fr h=(Ev.cC P es fr h).bind f) :
  ∀s H Q,tJ K m P e' s H Q->KP (oV K f) (K5 K m P es) s H Q:=λs H Q q=>by
 obtain⟨r,fr,h,d,h',sr,hr,e,q⟩:=q;rw[he]at e;obtain⟨ds,h1,e1,e⟩:=Ev.ai e;exact⟨r,fr,h,ds,h1,sr,hr,e1,λvs H1 r1 v1 hr1 f1=>⟨r1,h1,ds,d,h',hr1,v1,e,q.later f1⟩⟩
def uN{k:BI}{es:Es}{x:Str}{id:String}{e0:Expr}{xs:List Expr}{p:Pos}(hc:∀X,Good G n sc N df X->fG X (.builtin id) (oV X.K (Ev.cH k)))(hs:JA G n sc N df m es (e0 :: xs))(hb:x∈G.bl:=by decide +kernel)
  (hg:sc.names.lookup x=some .globalImplicit:=by rfl) (hv:bootBuiltins x=some (.builtin id)) (hn:x≠"__name__" :=by decide) (hd:(x==("__debug__" : Str))=false:=by decide)
  (hst:∀env:Env,starEach (e0 :: xs) env=(false,eval e0 env) :: starEach xs env:=by intro _;rfl) (hpl:∀env:Env,(backTo pos (starEach xs env)).any (·.1)=false:=by intro _;rfl) :
  JE G n sc N df m (.bi k es) (.Call (.Name x p) (e0 :: xs) [] pos):=
 λX g=>PE.of (vj (hc X g) (g.gl hg) (g.bl x hb) hv (hs X g) hn hd (hst _) (hpl _)) (yy λfr h=>by simp only[Ev.ev])
def Gq{k:BI}{es:Es}{x:Str}{id:String}{e0:Expr}{xs:List Expr}{p:Pos}(hc:∀X,Good G n sc N df X->fG X (.type id) (oV X.K (Ev.cH k)))(hs:JA G n sc N df m es (e0 :: xs))(hb:x∈G.bl:=by decide +kernel)
  (hg:sc.names.lookup x=some .globalImplicit:=by rfl) (hv:bootBuiltins x=some (.type id)) (hn:x≠"__name__" :=by decide) (hd:(x==("__debug__" : Str))=false:=by decide)
  (hst:∀env:Env,starEach (e0 :: xs) env=(false,eval e0 env) :: starEach xs env:=by intro _;rfl) (hpl:∀env:Env,(backTo pos (starEach xs env)).any (·.1)=false:=by intro _;rfl) :
  JE G n sc N df m (.bi k es) (.Call (.Name x p) (e0 :: xs) [] pos):=
 λX g=>PE.of (tL (hc X g) (g.gl hg) (g.bl x hb) hv (hs X g) hn hd (hst _) (hpl _)) (yy λfr h=>by simp only[Ev.ev])
def QG{f:Nat}{i:FI}{es:Es}{e0:Expr}{xs:List Expr}{p:Pos}(hf:G.fi[f]?=some i)(hs:JA G n sc N df m es (e0 :: xs))
  (hg:sc.names.lookup i.name=some .globalImplicit:=by rfl) (hd:(i.name==("__debug__" : Str))=false:=by decide)
  (hst:∀env:Env,starEach (e0 :: xs) env=(false,eval e0 env) :: starEach xs env:=by intro _;rfl) (hpl:∀env:Env,(backTo pos (starEach xs env)).any (·.1)=false:=by intro _;rfl) :
  JE G n sc N df m (.cl f es) (.Call (.Name i.name p) (e0 :: xs) [] pos):=λX g=>by
 obtain⟨h1,h2,h3,h4⟩:=g.fn f i hf;refine PE.of (HE h4 g.room (g.gl hg) h1 h2 h3 .nil Qv (hs X g) hd (hst _) (hpl _)) λs H Q q=>?_;obtain⟨r,fr,h,d,h',sr,hr,e,q⟩:=q;simp only[Ev.ev]at e;obtain⟨ds,h5,e1,e⟩:=Ev.ai e;refine⟨r,fr,h,ds,h5,sr,hr,e1,λvs H1 r1 v1 hr1 f1=>?_⟩;exact⟨r1,h5,ds,d,h',by rw[aao];exact v1,hr1,e,q.later f1⟩
noncomputable def DQ:ME->String
 |.join=>"str"
 |.part=>"str"
 |.idxs=>"str"
 |_=>"list"
def BA{K:PySem.W.Frag}{H:Hp}{r:List Addr}{h:Hh}{k:ME}{d:D}{v:V}{ty:String}(hr:HR K H r h)(v1:RV K H r d v)(e:Ev.yw k d h=true)(ht:ty=DQ k):Bq K ty v H:=by
 subst ht;have lst:∀i,d=.ref i->(Ev.bA h i).isSome=true->Bq K "list" v H:=λi ed es=>by
  subst ed;obtain⟨ds,e1⟩:=Option.isSome_iff_exists.mp es;obtain⟨p,vs,e2,q1,q2⟩:=hr.read e1;simp only[RV]at v1;obtain⟨p',rfl,e3⟩:=v1;rw[e2]at e3;cases e3;exact .inl ⟨rfl,vs,q1⟩
 cases k with
 |join=>
  cases d with
  |str l=>simp only[RV]at v1;obtain⟨rfl,_⟩:=v1;rfl
  |_=>cases e
 |part=>
  cases d with
  |str l=>simp only[RV]at v1;obtain⟨rfl,_⟩:=v1;rfl
  |_=>cases e
 |idxs=>
  cases d with
  |str l=>simp only[RV]at v1;obtain⟨rfl,_⟩:=v1;rfl
  |_=>cases e
 |append=>cases d with|ref i=>exact lst i rfl e|_=>cases e
 |extend=>cases d with|ref i=>exact lst i rfl e|_=>cases e
 |pop=>cases d with|ref i=>exact lst i rfl e|_=>cases e
def qo {k:ME}{es:Es}{e0:Expr}{xs:List Expr}{name:Str}{apos:Pos}{ty id:String}(pa:PlainAttrs ty) (slot:Slot ty name id) (hty:typeOf (.builtin id)=pure (.type "method_descriptor"))
  (hm:∀X,Good G n sc N df X->m9 X id (oW X.K (Ev.dz k))) (ht:ty=DQ k) (ha:JE G n sc N df m a xa) (hs:JA G n sc N df m es (e0 :: xs))
  (hbase:∀env:Env,attributeBase xa name env (eval xa env)=eval xa env:=by intro _;rfl)
  (hfew:∀env:Env,((backTo pos (starEach (e0 :: xs) env)).all (λx=>!x.1)&&(backToKw pos (keywordEach [] env)).all (λx=>x.1.isSome)
   &&decide ((e0 :: xs).length+([]:List Keyword).length+(if ([]:List Keyword).isEmpty then 0 else 1)<30))=true:=by intro _;rfl)
  (hline:(apos.endLine==pos.line)=true:=by rfl) (hst:∀env:Env,starEach (e0 :: xs) env=(false,eval e0 env) :: starEach xs env:=by intro _;rfl) (hpl:∀env:Env,(backTo pos (starEach xs env)).any (·.1)=false:=by intro _;rfl) :
  JE G n sc N df m (.me k a es) (.Call (.Attribute xa name apos) (e0 :: xs) [] pos):=λX g=>
 PE.of (Gi pa slot hty (hm X g) (ha X g) (hs X g) (hbase _) (hfew _) hline (hst _) (hpl _)) λs H Q q=>by
  obtain⟨r,fr,h,d,h',sr,hr,e,q⟩:=q;simp only[Ev.ev]at e;obtain⟨x,h1,e1,e⟩:=Ev.ai e;split at e
  .rename_i hk;obtain⟨ds,h2,e2,e⟩:=Ev.ai e;refine⟨r,fr,h,x,h1,sr,hr,e1,λv H1 r1 v1 hr1 f1=>⟨BA hr1 v1 hk ht,?_⟩⟩;refine⟨r1,fr,h1,ds,h2,sr.mono f1,hr1,e2,λvs H2 r2 v2 hr2 f2=>?_⟩;exact⟨r2,h2,x,ds,d,h',hr2,v1.mono f2,v2,e,q.later (f1.trans f2)⟩
  .cases e
def Ll {k:ME}{name:Str}{apos:Pos}{ty id:String}(pa:PlainAttrs ty) (slot:Slot ty name id) (hty:typeOf (.builtin id)=pure (.type "method_descriptor"))
  (hm:∀X,Good G n sc N df X->m9 X id (oW X.K (Ev.dz k))) (ht:ty=DQ k) (ha:JE G n sc N df m a xa)
  (hbase:∀env:Env,attributeBase xa name env (eval xa env)=eval xa env:=by intro _;rfl) (hline:(apos.endLine==pos.line)=true:=by rfl) :
  JE G n sc N df m (.me k a .nil) (.Call (.Attribute xa name apos) [] [] pos):=λX g=>
 PE.of (KU pa slot hty (hm X g) (ha X g) (hbase _) hline) λs H Q q=>by
  obtain⟨r,fr,h,d,h',sr,hr,e,q⟩:=q;simp only[Ev.ev]at e;obtain⟨x,h1,e1,e⟩:=Ev.ai e;split at e
  .rename_i hk;simp only[Ev.cC,Ev.ak]at e;refine⟨r,fr,h,x,h1,sr,hr,e1,λv H1 r1 v1 hr1 f1=>⟨BA hr1 v1 hk ht,?_⟩⟩;exact⟨r1,h1,x,[],d,h',hr1,v1,.nil,e,q.later f1⟩
  .cases e
end
end Sm
namespace Sm
open PySem PySem.Spec PyProof.Rows L2
open Ev (D O Hh Fr R aP E Es Eo T S Ss Fl Src bJ bx TY BI ME)
noncomputable def rQ(K:PySem.W.Frag)(r0:List Addr)(H0:Hp)(s:Src)(J:L2.It):Prop:=∀(i:Nat) H1 r1 h1,HR K H1 r1 h1->Fm K r0 r1 H0 H1->Ev.stays h1 s.2=true->
 (∀d,s.1[i]?=some d->J.go i H1/\∀x H2,J.Gh i H1 x H2->∃r2,RV K H2 r2 d x/\HR K H2 r2 h1/\Fm K r1 r2 H1 H2)/\(s.1.length<=i->J.stop i H1)
inductive T3(K:PySem.W.Frag)(m:List Nat)(P:aP)(it:Ev.It)(s:L2.St)(H:Hp)(Rr:L2.It->Hp->Prop):Prop
 |mk (r:List Addr) (fr:Fr) (h:Hh) (src:Src) (h':Hh) (c0:SR K m H r fr s) (c1:HR K H r h) (c2:Ev.cT P it fr h=.ok src h') (c3:∀J H' r',HR K H' r' h'->Fm K r r' H H'->rQ K r' H' src J->Rr J H'):T3 K m P it s H Rr
noncomputable def JI(G:Tb)(n:Nat)(sc:Scope)(N:List Str)(df:Bool)(m:List Nat)(it:Ev.It)(tg x:Expr):Prop:=∀X,Good G n sc N df X->PI X tg x (T3 X.K m (Ev.run G.F G.w n) it)
noncomputable def Gr(z:Str):L2.It:=⟨λi _=>i<z.length,λi H x H'=>H'=H/\∃c,z.cps[i]?=some c/\x=.str ⟨#[c]⟩,λi _=>z.length<=i⟩
def Lm{M:Model}{A:Around}{E:Value->Shared->Prop}{s:Shared}{tg:Expr}{it:Value}{x:Str}{t:Tok}{Q:Unit->Shared->Prop}(hQ:Q () s):wpAny M A (letOwnedTupleGo tg it (.str x t)) Q E s:=by
 unfold letOwnedTupleGo;cases tg<;>first
  |exact uq hQ
  | (cases it<;>exact uq hQ)
def vC {P:Program}{w:World}{K:PySem.W.Frag}{tg:Expr}(z:Str) (t:Tok) (it:Addr) (ty:String) (hty:ty = "str_ascii_iterator" \/ty = "str_iterator") :
  Turn P w K tg (Gr z) [it] it (λi h=>h.IsStrIter it ty z t i) where
 mem:=by simp
 obj:=λi h st b hb=>by
  have e:b=it:=by simpa using hb
  subst e;obtain⟨o,e,c,d⟩:=st;exact⟨o,e,λv z=>by rw[d]at z;cases z⟩
 keep:=λi h h' st k=>by
  obtain⟨o,e,c,d⟩:=st;exact⟨o,k it (by simp) o e,c,d⟩
 item:=by
  intro X hP hw hK hc i pins s σ H E I hf st hg;subst hP hw hK;obtain⟨f0,f1,f2,f3,f4,f5⟩:=hf it (by simp);have W:Walks X.prog X.w X.A it [it] [it] z.cps.size (SignAt z) (λi h=>h.IsStrIter it ty z t i):=by
   rcases hty with e|e
   .subst e;exact Walks.strAscii (I.ok.hd hc) it z t
   .subst e;exact Walks.strWide (I.ok.hd hc) it z t
  refine W.item i s _ _ hg st λv h' tk hv st' kk=>?_;obtain⟨c,u,hc',rfl⟩:=hv;have I1:Inv X pins σ H { s with heap:=h',toks:=tk }:=I.turned (λb o hb e=>kk b o (by simpa using hb) e) f0 f1 f3 f4 f5;exact⟨_,rfl,Lm ⟨.str ⟨#[c]⟩,H,I1,⟨u,rfl⟩,⟨rfl,c,hc',rfl⟩,st',λb hb=>(hf b hb).1⟩⟩
 done:=by
  intro X hP hw hK hc i pins s σ H E I hf st hg;subst hP hw hK;obtain⟨f0,f1,f2,f3,f4,f5⟩:=hf it (by simp);rcases hty with e|e
  .subst e;exact wpAny_pyNext_ascii_end (I.ok.hd hc) st (by simpa[Str.length,Gr]using hg) λh' eb=>⟨rfl,I.turned (t':=s.toks) (λb o hb e=>eb b o hb e) f0 f1 f3 f4 f5⟩
  .subst e;exact wpAny_pyNext_wide_end (I.ok.hd hc) st (by simpa[Str.length,Gr]using hg) λh' eb=>⟨rfl,I.turned (t':=s.toks) (λb o hb e=>eb b o hb e) f0 f1 f3 f4 f5⟩
 self:=λ_ _ _ _ _ st h=>by
  rcases hty with e|e
  .subst e;exact wpAny_pyIter_striter_ascii st h
  .subst e;exact wpAny_pyIter_striter_wide st h
noncomputable def Gs(K:PySem.W.Frag)(x:V)(H:Hp)(Rr:L2.It->Hp->Prop):Prop:=
 (∃a xs,x=.ref a/\fS K H a xs/\Rr (TN K a) H)\/(∃a xs,x=.ref a/\ee K H a xs/\Rr (TQ K a) H)\/∃z,x=.str z/\Rr (Gr z) H
def Ln{X:Cx}{tg l:Expr}{tl:TE}{wi:TI}(hl:PE X l tl)(hw:∀s H Rr,wi s H Rr->tl s H λx H1=>Gs X.K x H1 Rr):PI X tg l wi:=by
 intro pins s σ H Rr I h;refine bF (hl pins s σ H _ I (hw _ _ _ h)) λv s1 ⟨x,H1,I1,r1,q1⟩=>?_;have fp:∀(o:Obj) b,b∈[s1.heap.objs.size]->iI X pins H1 b:=λo b hb=>by
  have e:b=s1.heap.objs.size:=by simpa using hb
  subst e;exact I1.Dy (WE _) (I1.hok.fresh (WE _))
 rcases q1 with ⟨a,xs,rfl,hq,q⟩|⟨a,xs,rfl,hq,q⟩|⟨z,rfl,q⟩
 .cases r1;obtain⟨its,rv,p,hz⟩:=I1.list hq;refine wpAny_pyIter_list p.isList ?_;exact⟨s1.heap.objs.size,[s1.heap.objs.size],_,_,H1,rfl,I1.kept (t':=s1.toks) λb o e=>FJ _ e,Bd a _,⟨_,aae _ rfl,rfl,rfl⟩,fp default,q⟩
 .cases r1;obtain⟨its,rv,p,hz⟩:=I1.tuple hq;refine wpAny_pyIter_tuple (show s1.heap.IsTuple a its.toArray from p) ?_;exact⟨s1.heap.objs.size,[s1.heap.objs.size],_,_,H1,rfl,I1.kept (t':=s1.toks) λb o e=>FJ _ e,zE a _,⟨_,aae _ rfl,rfl,rfl⟩,fp default,q⟩
 .obtain⟨t,rfl⟩:=r1;cases ha:z.cps.all (· < 128)
  .refine wpAny_pyIter_wide ha ?_;exact⟨s1.heap.objs.size,[s1.heap.objs.size],_,_,H1,rfl,I1.kept (t':=s1.toks) λb o e=>FJ _ e,vC z t _ _ (.inr rfl),⟨_,aae _ rfl,rfl,rfl⟩,fp default,q⟩
  .refine wpAny_pyIter_ascii ha ?_;exact⟨s1.heap.objs.size,[s1.heap.objs.size],_,_,H1,rfl,I1.kept (t':=s1.toks) λb o e=>FJ _ e,vC z t _ _ (.inl rfl),⟨_,aae _ rfl,rfl,rfl⟩,fp default,q⟩
def BB{h:Hh}{n:Nat}{ds:List D}(e:Ev.stays h [(n,ds)]=true):Ev.bA h n=some ds:=by
 simp only[Ev.stays,Bool.and_true]at e;split at e
 .rename_i es q;rw[q,(Ev.tO _ _).mp e]
 .cases e
def HW{K:PySem.W.Frag}{H:Hp}{r:List Addr}{h:Hh}{d:D}{v:V}{src:Src}{Rr:L2.It->Hp->Prop}(hr:HR K H r h)(v1:RV K H r d v)(e:Ev.gH h d=some src)(q:∀J,rQ K r H src J->Rr J H):Gs K v H Rr:=by
 cases d with
 |tup ds=>
  simp only[RV]at v1;obtain⟨a,vs,rfl,z,w⟩:=v1;cases e;refine .inr (.inl ⟨a,vs,rfl,z,q _ λi H1 r1 h1 hr1 f1 st=>⟨λd' e'=>?_,λhl=>?_⟩⟩)
  .obtain⟨u,e1,e2⟩:=w.get e';refine⟨⟨vs,u,f1.tups _ _ z,e1⟩,λx H2 y=>?_⟩;obtain⟨rfl,y⟩:=y;have:=y vs (f1.tups _ _ z);rw[e1]at this;cases this;exact⟨r1,e2.mono f1,hr1,.refl⟩
  .exact⟨vs,f1.tups _ _ z,by rw[w.length];exact hl⟩
 |str l=>
  simp only[RV]at v1;obtain⟨rfl,z⟩:=v1;cases e;refine .inr (.inr ⟨_,rfl,q _ λi H1 r1 h1 hr1 f1 st=>⟨λd' e'=>?_,λhl=>?_⟩⟩)
  .rw[aat]at e';cases e2:l[i]? with
   |none=>rw[e2]at e';cases e'
   |some c=>
    rw[e2]at e';cases e';refine⟨by show i<(aB l).length;rw[bf];exact(List.getElem?_eq_some_iff.mp e2).1,λx H2 y=>?_⟩;obtain⟨rfl,c',y1,rfl⟩:=y;have e3:(aB l).cps[i]?=some c:=by simp[aB,e2]
    rw[e3]at y1;cases y1;exact⟨r1,⟨rfl,by show 1<=sizeLine;decide⟩,hr1,.refl⟩
  .show(aB l).length<=i;rw[bf];simpa using hl
 |ref k=>
  simp only[RV]at v1;obtain⟨a,rfl,z⟩:=v1;simp only[Ev.gH,gV]at e;obtain⟨ds,e1,rfl⟩:=e;obtain⟨a',vs,e2,e3,e4⟩:=hr.read e1;rw[z]at e2;cases e2;refine .inl ⟨a,vs,rfl,e3,q _ λi H1 r1 h1 hr1 f1 st=>?_⟩;obtain⟨a',us,e5,e6,e7⟩:=hr1.read (BB st);rw[f1.pre _ _ z]at e5;cases e5;refine⟨λd' e'=>?_,λhl=>⟨us,e6,by rw[e7.length];exact hl⟩⟩;obtain⟨u,g1,g2⟩:=e7.get e';refine⟨⟨us,u,e6,g1⟩,λx H2 y=>?_⟩;obtain⟨rfl,y⟩:=y;have:=y us e6;rw[g1]at this;cases this;exact⟨r1,g2,hr1,.refl⟩
 |_=>cases e
section
variable{G:Tb}{n:Nat}{sc:Scope}{N:List Str}{df:Bool}{m:List Nat}{a b:E}{xa xb tg:Expr}{pos:Pos}
def Lo(ha:JE G n sc N df m a xa):JI G n sc N df m (.seq a) tg xa:=λX g=>Ln (ha X g) λs H Rr q=>by
 obtain⟨r,fr,h,src,h',sr,hr,e,q⟩:=q;simp only[Ev.cT]at e;obtain⟨d,h1,e1,e⟩:=Ev.ai e;obtain⟨e,rfl⟩:=Ev.aI e;refine⟨r,fr,h,d,_,sr,hr,e1,λv H1 r1 v1 hr1 f1=>?_⟩;exact HW hr1 v1 e λJ hJ=>q J H1 r1 hr1 f1 hJ
def PI.of{X:Cx}{tg l:Expr}{t t':TI}(h:PI X tg l t)(w:∀s H Q,t' s H Q->t s H Q):PI X tg l t':=λpins s σ H Q I q=>h pins s σ H Q I (w _ _ _ q)
def BC{K:PySem.W.Frag}{r:List Addr}{H:Hp}(lo:Int)(k:Nat):rQ K r H (Ev.range lo k,[]) (Bc lo k):=λi H1 r1 h1 hr1 f1 st=>by
 refine⟨λd e=>?_,λhl=>?_⟩
 .simp only[Ev.range,aat]at e;cases e2:(List.range k)[i]? with
  |none=>rw[e2]at e;cases e
  |some j=>
   rw[e2]at e;cases e;have hi:i<k:=by simpa using (List.getElem?_eq_some_iff.mp e2).1
   have hj:j=i:=by
    rw[abu hi]at e2;exact(qV e2).symm
   subst hj;refine⟨hi,λx H2 y=>?_⟩;obtain⟨rfl,rfl⟩:=y;exact⟨r1,rfl,hr1,.refl⟩
 .have:(Ev.range lo k).length=k:=by simp[Ev.range]
  show k<=i;have hl':(Ev.range lo k).length<=i:=hl;omega
def HX {e1:E}{p:Pos}(hs:JA G n sc N df m (.cons e1 .nil) [xa]) (hg:sc.names.lookup ("range" : Str)=some .globalImplicit:=by rfl) (hb:("range" : Str)∈G.bl:=by decide +kernel)
  (hst:∀env:Env,starEach [xa] env=[(false,eval xa env)]:=by intro _;rfl):JI G n sc N df m (.gI (.cons e1 .nil)) tg (.Call (.Name "range" p) [xa] [] pos):=λX g=>
 PI.of (Be (g.gl hg) (g.bl _ hb) (hs X g) (hst _)) λs H Rr q=>by
  obtain⟨r,fr,h,src,h',sr,hr,e,q⟩:=q;simp only[Ev.cT]at e;obtain⟨ds,h1,e1,e⟩:=Ev.ai e;obtain⟨e,rfl⟩:=Ev.aI e;refine⟨r,fr,h,ds,_,sr,hr,e1,λvs H1 r1 v1 hr1 f1=>?_⟩;unfold Ev.eH at e;split at e
  .rename_i j;split at e
   .rename_i hj;cases e;simp only[aG,RV]at v1;obtain⟨v,w,rfl,rfl,rfl⟩:=v1;exact⟨_,rfl,hj.1,hj.2,q _ H1 r1 hr1 f1 (BC 0 _)⟩
   .cases e
  .exfalso;simp only[Ev.cC]at e1;obtain⟨d,_,_,e1⟩:=Ev.ai e1;simp only[Ev.ak]at e1;cases e1
  .cases e
def HY {e1 e2:E}{p:Pos}(hs:JA G n sc N df m (.cons e1 (.cons e2 .nil)) [xa,xb]) (hg:sc.names.lookup ("range" : Str)=some .globalImplicit:=by rfl) (hb:("range" : Str)∈G.bl:=by decide +kernel)
  (hst:∀env:Env,starEach [xa,xb] env=[(false,eval xa env),(false,eval xb env)]:=by intro _;rfl) (Wd:∀env:Env,starEach [xb] env=[(false,eval xb env)]:=by intro _;rfl) :
  JI G n sc N df m (.gI (.cons e1 (.cons e2 .nil))) tg (.Call (.Name "range" p) [xa,xb] [] pos):=λX g=>
 PI.of (Bf (g.gl hg) (g.bl _ hb) (hs X g) (hst _) (Wd _)) λs H Rr q=>by
  obtain⟨r,fr,h,src,h',sr,hr,e,q⟩:=q;simp only[Ev.cT]at e;obtain⟨ds,h1,e1,e⟩:=Ev.ai e;obtain⟨e,rfl⟩:=Ev.aI e;refine⟨r,fr,h,ds,_,sr,hr,e1,λvs H1 r1 v1 hr1 f1=>?_⟩;unfold Ev.eH at e;split at e
  .exfalso;simp only[Ev.cC]at e1;obtain⟨d,_,_,e1⟩:=Ev.ai e1;obtain⟨d2,_,e2,e1⟩:=Ev.ai e1;obtain⟨d3,_,e3,e2⟩:=Ev.ai e2;simp only[Ev.ak]at e2;cases e2;cases e1
  .rename_i i j;split at e
   .rename_i hj;cases e;simp only[aG,RV]at v1;obtain⟨v,w,rfl,rfl,v',w',rfl,rfl,rfl⟩:=v1;exact⟨_,_,rfl,hj,q _ H1 r1 hr1 f1 (BC _ _)⟩
   .cases e
  .cases e
inductive gJ(K:PySem.W.Frag)(m:List Nat)(t:T)(v:V)(s:L2.St)(H:Hp)(Q:L2.St->Hp->Prop):Prop
 |mk (r:List Addr) (fr:Fr) (h:Hh) (d:D) (aj:Fr) (c0:SR K m H r fr s) (c1:HR K H r h) (c2:RV K H r d v) (c3:Ev.cJ t d fr=some aj) (c4:∀s',SR K m H r aj s'->Q s' H):gJ K m t v s H Q
noncomputable def JG(G:Tb)(n:Nat)(sc:Scope)(N:List Str)(df:Bool)(m:List Nat)(t:T)(x:Expr):Prop:=∀X,Good G n sc N df X->PG X x (gJ X.K m t)
def PG.of{X:Cx}{e:Expr}{t t':TG}(h:PG X e t)(w:∀v s H Q,t' v s H Q->t v s H Q):PG X e t':=λpins s σ H v u Q I r q=>h pins s σ H v u Q I r (w _ _ _ _ q)
theorem SR.set{K:PySem.W.Frag}{m:List Nat}{H:Hp}{r:List Addr}{fr:Fr}{s:L2.St}(sr:SR K m H r fr s)(hm:m.Nodup){j i:Nat}(hj:m[j]?=some i){d:D}{v:V}(v1:RV K H r d v):SR K m H r (fr.set i (some d)) (s.set j (some v)):=by
 refine⟨by simp[sr.len],λj' i' d' e1 e2=>?_⟩;by_cases hi:i'=i
 .subst hi;have:j'=j:=BD hm e1 hj;subst this;have hlt:i'<fr.length:=by
   have:=(List.getElem?_eq_some_iff.mp e2).1;simpa using this
  rw[Y6 hlt]at e2;cases e2;refine⟨v,Y6 ?_,v1⟩;rw[sr.len];exact(List.getElem?_eq_some_iff.mp hj).1
 .rw[WD (λz=>hi z.symm)]at e2;obtain⟨u,q1,q2⟩:=sr.sl j' i' d' e1 e2;refine⟨u,?_,q2⟩;rw[WD]
  .exact q1
  .intro z;subst z;rw[hj]at e1;cases e1;exact hi rfl
where
 BD {l:List Nat} (hl:l.Nodup) {i j:Nat} {x:Nat} (a:l[i]?=some x) (b:l[j]?=some x):i=j:=by
  have ha:=(List.getElem?_eq_some_iff.mp a)
  have hb:=(List.getElem?_eq_some_iff.mp b)
  obtain⟨h1,e1⟩:=ha;obtain⟨h2,e2⟩:=hb;exact(List.getElem_inj hl).mp (e1.trans e2.symm)
def Good.loc{X:Cx}(g:Good G n sc N df X){x:Str}(h:sc.names.lookup x=some .local\/(df=true/\sc.names.lookup x=some .cell)):Loc X.env.scope x/\(X.fn x=true\/X.env.scope.names.lookup x=some .local):=by
 rw[show Loc X.env.scope x↔Loc sc x by rw[g.sc],g.sc];rcases h with h|⟨h1,h⟩
 .exact⟨.inl h,.inr h⟩
 .exact⟨.inr h,.inl (g.own h1 x)⟩
def Lp(j i:Nat){x:Str}(hm:m.Nodup)(hN:N.Nodup)(hj:m[j]?=some i:=by rfl)(tP:N[j]?=some x:=by rfl)
  (hl:sc.names.lookup x=some .local\/(df=true/\sc.names.lookup x=some .cell):=by first|exact Or.inl rfl|exact Or.inr ⟨rfl,rfl⟩):JG G n sc N df m (.one i) (.Name x pos):=λX g=>by
 obtain⟨h1,h2⟩:=g.loc hl;refine PG.of (yo (i:=j) (by rw[g.nm];exact hN) (by rw[g.nm];exact tP) h1 h2) λv s H Q q=>?_;obtain⟨r,fr,h,d,aj,sr,hr,v1,e,q⟩:=q;cases e;exact q _ (sr.set hm hj v1)
inductive T4(K:PySem.W.Frag)(m:List Nat)(l:List Nat)(vs:List V)(s:L2.St)(H:Hp)(Q:L2.St->Hp->Prop):Prop
 |mk (r:List Addr) (fr:Fr) (h:Hh) (ds:List D) (aj:Fr) (c0:SR K m H r fr s) (c1:HR K H r h) (c2:aG K H r ds vs) (c3:Ev.cW l ds fr=some aj) (c4:∀s',SR K m H r aj s'->Q s' H):T4 K m l vs s H Q
noncomputable def tQ(G:Tb)(n:Nat)(sc:Scope)(N:List Str)(df:Bool)(m:List Nat)(l:List Nat)(xs:List Expr):Prop:=∀X,Good G n sc N df X->oR X xs (T4 X.K m l)
def oR.of{X:Cx}{e:List Expr}{t t':sZ}(h:oR X e t)(w:∀v s H Q,t' v s H Q->t v s H Q):oR X e t':=λpins s σ H v u Q I r q=>h pins s σ H v u Q I r (w _ _ _ _ q)
def HZ:tQ G n sc N df m [] []:=λX g=>oR.of Hz λvs s H Q q=>by
 obtain⟨r,fr,h,ds,aj,sr,hr,v1,e,q⟩:=q;cases ds with
 |nil=>simp only[aG]at v1;subst v1;cases e;exact⟨rfl,q _ sr⟩
 |cons _ _=>cases e
def DR(j i:Nat){x:Str}{l:List Nat}{xs:List Expr}(hm:m.Nodup)(hN:N.Nodup)(hs:tQ G n sc N df m l xs)(hj:m[j]?=some i:=by rfl)(tP:N[j]?=some x:=by rfl)
  (hl:sc.names.lookup x=some .local\/(df=true/\sc.names.lookup x=some .cell):=by first|exact Or.inl rfl|exact Or.inr ⟨rfl,rfl⟩)
  (hst:∀env:Env,(assignEach (.Name x pos :: xs) env).map (·.2)=assign (.Name x pos) env :: (assignEach xs env).map (·.2):=by intro _;rfl):tQ G n sc N df m (i :: l) (.Name x pos :: xs):=λX g=>by
 obtain⟨h1,h2⟩:=g.loc hl;refine oR.of (Dv (yo (i:=j) (by rw[g.nm];exact hN) (by rw[g.nm];exact tP) h1 h2) (hs X g) (hst _)) λvs s H Q q=>?_;obtain⟨r,fr,h,ds,aj,sr,hr,v1,e,q⟩:=q;cases ds with
 |nil=>cases e
 |cons d ds=>
  simp only[aG]at v1;obtain⟨v,w,rfl,v2,v3⟩:=v1;exact⟨v,w,rfl,r,_,h,ds,aj,sr.set hm hj v2,hr,v3,e,q⟩
def Ia{l:List Nat}{xs:List Expr}{k:Nat}(hs:tQ G n sc N df m l xs)(hn:∀env:Env,(assignEach xs env).length=l.length:=by intro _;rfl)(hst:∀env:Env,(assignEach xs env).findIdx? (·.1)=none:=by intro _;rfl) :
  JG G n sc N df m (.many l) (.Tuple xs k pos):=λX g=>PG.of (Kr (n:=l.length) g.calm (hs X g) (hn _) (hst _)) λv s H Q q=>by
 obtain⟨r,fr,h,d,aj,sr,hr,v1,e,q⟩:=q;cases d with
 |tup ds=>
  simp only[RV]at v1;obtain⟨p,vs,rfl,z,w⟩:=v1;have hlen:∀(l:List Nat) (ds:List D) fr aj,Ev.cW l ds fr=some aj->ds.length=l.length:=by
   intro l;induction l with
   |nil=>intro ds fr aj e;cases ds with|nil=>rfl|cons _ _=>cases e
   |cons i l ih=>intro ds fr aj e;cases ds with|nil=>cases e|cons d ds=>simp[ih ds _ _ e]
  exact⟨p,vs,rfl,z,by rw[w.length];exact hlen _ _ _ _ e,r,fr,h,ds,aj,sr,hr,w,e,q⟩
 |_=>cases e
end
noncomputable def Fin(K:PySem.W.Frag)(m:List Nat)(r:List Addr)(H:Hp)(h':Hh)(fl:Fl)(aj:Fr)(Q:Ends):Prop:=match fl with
 |.nx=>∀s' H' r',SR K m H' r' aj s'->HR K H' r' h'->Fm K r r' H H'->Q.nx s' H'
 |.bk=>∀s' H' r',SR K m H' r' aj s'->HR K H' r' h'->Fm K r r' H H'->Q.bk s' H'
 |.ct=>∀s' H' r',SR K m H' r' aj s'->HR K H' r' h'->Fm K r r' H H'->Q.ct s' H'
 |.ret d=>Res K r H h' d Q.rt
theorem Fin.later{K:PySem.W.Frag}{m:List Nat}{r r':List Addr}{H H':Hp}{h':Hh}{fl:Fl}{aj:Fr}{Q:Ends}(q:Fin K m r H h' fl aj Q)(f:Fm K r r' H H'):Fin K m r' H' h' fl aj Q:=by
 cases fl with
 |nx=>exact λs2 H2 r2 a b g=>q s2 H2 r2 a b (f.trans g)
 |bk=>exact λs2 H2 r2 a b g=>q s2 H2 r2 a b (f.trans g)
 |ct=>exact λs2 H2 r2 a b g=>q s2 H2 r2 a b (f.trans g)
 |ret d=>exact Res.later q f
inductive T5(K:PySem.W.Frag)(m:List Nat)(P:aP)(w:Nat)(st:S)(Q:Ends)(s:L2.St)(H:Hp):Prop
 |mk (r:List Addr) (fr:Fr) (h:Hh) (fl:Fl) (aj:Fr) (h':Hh) (c0:SR K m H r fr s) (c1:HR K H r h) (c2:Ev.ex P w st fr h=.ok (fl,aj) h') (c3:Fin K m r H h' fl aj Q):T5 K m P w st Q s H
inductive DS(K:PySem.W.Frag)(m:List Nat)(P:aP)(w:Nat)(ss:Ss)(Q:Ends)(s:L2.St)(H:Hp):Prop
 |mk (r:List Addr) (fr:Fr) (h:Hh) (fl:Fl) (aj:Fr) (h':Hh) (c0:SR K m H r fr s) (c1:HR K H r h) (c2:Ev.exs P w ss fr h=.ok (fl,aj) h') (c3:Fin K m r H h' fl aj Q):DS K m P w ss Q s H
def PS.of{X:Cx}{st:Stmt}{t t':TS}(h:PS X st t)(w:∀Q s H,t' Q s H->t Q s H):PS X st t':=λpins s σ H Q I q=>h pins s σ H Q I (w _ _ _ q)
def iT.of{X:Cx}{st:List Stmt}{t t':TS}(h:iT X st t)(w:∀Q s H,t' Q s H->t Q s H):iT X st t':=λpins s σ H Q I q=>h pins s σ H Q I (w _ _ _ q)
section
variable(G:Tb)(n:Nat)(sc:Scope)(N:List Str)(df:Bool)(m:List Nat)
noncomputable def JS(st:S)(x:Stmt):Prop:=∀X,Good G n sc N df X->PS X x (T5 X.K m (Ev.run G.F G.w n) G.w st)
noncomputable def mX(ss:Ss)(xs:List Stmt):Prop:=∀X,Good G n sc N df X->iT X xs (DS X.K m (Ev.run G.F G.w n) G.w ss)
end
section
variable{G:Tb}{n:Nat}{sc:Scope}{N:List Str}{df:Bool}{m:List Nat}{a b:E}{xa tg:Expr}{pos:Pos}
def Ib:mX G n sc N df m .nil []:=λX g=>iT.of Hx λQ s H q=>by
 obtain⟨r,fr,h,fl,aj,h',sr,hr,e,q⟩:=q;simp only[Ev.exs]at e;cases e;exact q s H r sr hr .refl
def DT{st:S}{ss:Ss}{x:Stmt}{xs:List Stmt}(h1:JS G n sc N df m st x)(h2:mX G n sc N df m ss xs):mX G n sc N df m (.cons st ss) (x :: xs):=λX g=>iT.of (Dt (h1 X g) (h2 X g)) λQ s H q=>by
 obtain⟨r,fr,h,fl,aj,h',sr,hr,e,q⟩:=q;simp only[Ev.exs]at e;obtain⟨⟨iy,ah⟩,h1,e1,e⟩:=Ev.ai e;refine⟨r,fr,h,iy,ah,h1,sr,hr,e1,?_⟩;cases iy with
 |nx=>exact λs1 H1 r1 BE hr1 f1=>⟨r1,ah,h1,fl,aj,h',BE,hr1,e,q.later f1⟩
 |bk=>cases e;exact q
 |ct=>cases e;exact q
 |ret d=>cases e;exact q
def Lq(j i:Nat){x:Str}{pos':Pos}(hm:m.Nodup)(hN:N.Nodup)(ha:JE G n sc N df m a xa)(hs:∀env:Env,swapsWith xa (some (.Name x pos')) pos.line env=pure false:=by intro _;rfl)(hj:m[j]?=some i:=by rfl)(tP:N[j]?=some x:=by rfl)
  (hl:sc.names.lookup x=some .local\/(df=true/\sc.names.lookup x=some .cell):=by first|exact Or.inl rfl|exact Or.inr ⟨rfl,rfl⟩):JS G n sc N df m (.set i a) (.Assign [.Name x pos'] xa pos):=λX g=>by
 obtain⟨h1,h2⟩:=g.loc hl;refine PS.of (Bb (i:=j) (by rw[g.nm];exact hN) (by rw[g.nm];exact tP) h1 (ha X g) (hs _) h2) λQ s H q=>?_;obtain⟨r,fr,h,fl,aj,h',sr,hr,e,q⟩:=q;simp only[Ev.ex]at e;obtain⟨d,h1,e1,e⟩:=Ev.ai e;cases e;exact⟨r,fr,h,d,_,sr,hr,e1,λv H1 r1 v1 hr1 f1=>q _ H1 r1 ((sr.mono f1).set hm hj v1) hr1 f1⟩
def Lr(ha:JE G n sc N df m a xa)(hs:∀env:Env,swapsWith xa none pos.line env=pure false:=by intro _;rfl):JS G n sc N df m (.exp a) (.Expr xa pos):=λX g=>PS.of (Hy (ha X g) (hs _)) λQ s H q=>by
 obtain⟨r,fr,h,fl,aj,h',sr,hr,e,q⟩:=q;simp only[Ev.ex]at e;obtain⟨d,h1,e1,e⟩:=Ev.ai e;cases e;exact⟨r,fr,h,d,_,sr,hr,e1,λv H1 r1 v1 hr1 f1=>q s H1 r1 (sr.mono f1) hr1 f1⟩
def Ls(ha:JE G n sc N df m a xa):JS G n sc N df m (.ret a) (.Return (some xa) pos):=λX g=>PS.of (Kp (ha X g)) λQ s H q=>by
 obtain⟨r,fr,h,fl,aj,h',sr,hr,e,q⟩:=q;simp only[Ev.ex]at e;obtain⟨d,h1,e1,e⟩:=Ev.ai e;cases e;exact⟨r,fr,h,d,_,sr,hr,e1,q⟩
def Lu:JS G n sc N df m .cnt (.Continue pos):=λX g=>PS.of xR λQ s H q=>by
 obtain⟨r,fr,h,fl,aj,h',sr,hr,e,q⟩:=q;simp only[Ev.ex]at e;cases e;exact q s H r sr hr .refl
def Lv{ta tb:Ss}{ya yb:List Stmt}(hc:JT G n sc N df m a xa)(h1:mX G n sc N df m ta ya)(h2:mX G n sc N df m tb yb):JS G n sc N df m (.iff a ta tb) (.If xa ya yb pos):=λX g=>PS.of (Qf (hc X g) (h1 X g) (h2 X g)) λQ s H q=>by
 obtain⟨r,fr,h,fl,aj,h',sr,hr,e,q⟩:=q;simp only[Ev.ex]at e;obtain⟨k,h3,e1,e⟩:=Ev.ai e;refine⟨r,fr,h,k,h3,sr,hr,e1,λH1 r1 hr1 f1=>?_⟩;cases k with
 |true=>exact⟨r1,fr,h3,fl,aj,h',sr.mono f1,hr1,e,q.later f1⟩
 |false=>exact⟨r1,fr,h3,fl,aj,h',sr.mono f1,hr1,e,q.later f1⟩
def Good.pass{X:Cx}(g:Good G n sc N df X):PassesOwn (model X.prog X.w) X.A X.env X.xe:=by
 rw[g.xe];exact PassesOwn.never
noncomputable def FN(K:PySem.W.Frag)(m:List Nat)(iy:Fl)(gT:Fr)(h4:Hh)(r1:List Addr)(H1:Hp)(s5:L2.St)(H5:Hp):Prop:=(iy=.nx\/iy=.ct)/\∃r5,SR K m H5 r5 gT s5/\HR K H5 r5 h4/\Fm K r1 r5 H1 H5
section
variable{K:PySem.W.Frag}{r r1 r2:List Addr}{H H1 H2:Hp}{h4 h':Hh}{fl iy:Fl}{gT aj:Fr}{Q:Ends}
noncomputable def zT(L:R (Fl×Fr))(p:Fl×Fr)(h1:Hh):R (Fl×Fr):=match p.1 with
 |.nx=>L
 |.ct=>L
 |.bk=>.ok (.nx,p.2) h1
 |.ret x=>.ok (.ret x,p.2) h1
def yz{L:R (Fl×Fr)}(e:zT L (iy,gT) h4=.ok (fl,aj) h')(z:iy=.nx\/iy=.ct):L=.ok (fl,aj) h':=by rcases z with rfl|rfl<;>exact e
def vD{L:R (Fl×Fr)}(e:zT L (iy,gT) h4=.ok (fl,aj) h')(q:Fin K m r H h' fl aj Q)(f:Fm K r r1 H H1)(f2:Fm K r1 r2 H1 H2):Fin K m r2 H2 h4 iy gT { Q with nx:=FN K m iy gT h4 r1 H1,ct:=FN K m iy gT h4 r1 H1,bk:=Q.nx }:=by
 cases iy with
 |nx=>exact λs6 H6 r6 BF BG f6=>⟨.inl rfl,r6,BF,BG,f2.trans f6⟩
 |ct=>exact λs6 H6 r6 BF BG f6=>⟨.inr rfl,r6,BF,BG,f2.trans f6⟩
 |bk=>
  cases e;exact λs6 H6 r6 BF BG f6=>q s6 H6 r6 BF BG ((f.trans f2).trans f6)
 |ret d=>
  cases e;exact Res.later q (f.trans f2)
noncomputable def vE(P:aP)(w:Nat)(t:T)(tb:Ss):D->Fr->Hh->R (Fl×Fr):=λd aq h2=>match Ev.cJ t d aq with
 |some cL=>Ev.exs P w tb cL h2
 |none=>.bad
def vF(P:aP)(w:Nat)(t:T)(it:Ev.It)(tb:Ss)(fr:Fr)(h:Hh):Ev.ex P w (.for t it tb) fr h=(Ev.cT P it fr h).bind λs h1=>Ev.forL (vE P w t tb) s.2 s.1 fr h1:=by simp only[Ev.ex];rfl
def BH(f:D->Fr->Hh->R (Fl×Fr))(ck:List (Nat×List D))(d:D)(ds:List D)(fr:Fr)(h:Hh):Ev.forL f ck (d :: ds) fr h=if Ev.stays h ck then (f d fr h).bind λp h1=>zT (Ev.forL f ck ds p.2 h1) p h1 else .bad:=rfl
noncomputable def FW(K:PySem.W.Frag)(m:List Nat)(f:D->Fr->Hh->R (Fl×Fr))(src:Src)(r1:List Addr)(H1:Hp)(o:Fl×Fr)(h':Hh)(i k:Nat)(s3:L2.St)(H3:Hp):Prop:=
 k=src.1.length - i/\i<=src.1.length/\∃r3 cL h3,SR K m H3 r3 cL s3/\HR K H3 r3 h3/\Fm K r1 r3 H1 H3/\Ev.forL f src.2 (src.1.drop i) cL h3=.ok o h'
def DU{P:aP}{w:Nat}{t:T}{tb:Ss}{src:Src}{J:L2.It}{i k:Nat}{s3:L2.St}{H3:Hp}(hJ:rQ K r1 H1 src J)(q:Fin K m r H h' fl aj Q)(f1:Fm K r r1 H H1)(hW:FW K m (vE P w t tb) src r1 H1 (fl,aj) h' i k s3 H3) :
  (J.stop i H3/\Q.nx s3 H3)\/(J.go i H3/\∃N:L2.St->Hp->Prop,(∀σ' H',N σ' H'->∃m',m'<k/\FW K m (vE P w t tb) src r1 H1 (fl,aj) h' (i+1) m' σ' H')/\∀x H',J.Gh i H3 x H'->gJ K m t x s3 H' λσ2 H2=>DS K m P w tb { Q with nx:=N,ct:=N,bk:=Q.nx } σ2 H2):=by
 obtain⟨rfl,hle,r3,cL,h3,yC,mW,f3,e3⟩:=hW;rcases Nat.lt_or_ge i src.1.length with hlt|hge
 .rw[acv hlt,BH]at e3;split at e3
  .rename_i hst;obtain⟨g1,g2⟩:=(hJ i H3 r3 h3 mW f3 hst).1 src.1[i] (Uy hlt);obtain⟨⟨iy,gT⟩,h4,e4,e3⟩:=Ev.ai e3;unfold vE at e4;split at e4
   .rename_i tu e5;exact .inr ⟨g1,FN K m iy gT h4 r1 H1,λs5 H5 ⟨hfl,r5,BJ,tR,f5⟩=>⟨_,acY hlt (abQ i),rfl,hlt,r5,gT,h4,BJ,tR,f5,yz e3 hfl⟩,λx H4 y=>
     let ⟨r4,v4,Gn,f4⟩:=g2 x H4 y
     ⟨r4,cL,h3,_,tu,yC.mono f4,Gn,v4,e5,λs5 BJ=>⟨r4,tu,h3,iy,gT,h4,BJ,Gn,e4,vD e3 q f1 (f3.trans f4)⟩⟩⟩
   .cases e4
  .cases e3
 .have hi:i=src.1.length:=Nat.le_antisymm hle hge;subst hi;rw[List.drop_length]at e3;unfold Ev.forL at e3;split at e3
  .rename_i hst;cases e3;exact .inl ⟨(hJ _ H3 r3 _ mW f3 hst).2 (WE _),q s3 H3 r3 yC mW (f1.trans f3)⟩
  .cases e3
end
def BK(t:Fr->Hh->R Bool)(f:Fr->Hh->R (Fl×Fr))(n:Nat)(fr:Fr)(h:Hh):Ev.eW t f (n+1) fr h=(t fr h).bind λb h1=>if b then (f fr h1).bind λp h2=>zT (Ev.eW t f n p.2 h2) p h2 else .ok (.nx,fr) h1:=rfl
noncomputable def WW(K:PySem.W.Frag)(m:List Nat)(P:aP)(w:Nat)(a:E)(tb:Ss)(r:List Addr)(H:Hp)(o:Fl×Fr)(h':Hh)(k:Nat)(s1:L2.St)(H1:Hp):Prop:=
 ∃r1 ah h1,SR K m H1 r1 ah s1/\HR K H1 r1 h1/\Fm K r r1 H H1/\Ev.eW (λaq h2=>Ev.aN P a aq h2) (λaq h2=>Ev.exs P w tb aq h2) k ah h1=.ok o h'
def Lx{tb:Ss}{yb:List Stmt}(hc:JT G n sc N df m a xa)(h1:mX G n sc N df m tb yb):JS G n sc N df m (.oU a tb) (.While xa yb [] pos):=λX g=>PS.of (Dw g.pass (hc X g) (h1 X g)) λQ s H q=>by
 obtain⟨r,fr,h,fl,aj,h',sr,hr,e,q⟩:=q;simp only[Ev.ex]at e;refine⟨WW X.K m (Ev.run G.F G.w n) G.w a tb r H (fl,aj) h',⟨_,r,fr,h,sr,hr,.refl,e⟩,λk s1 H1 hW=>?_⟩;obtain⟨r1,ah,h1,BE,hr1,f1,e1⟩:=hW;cases k with
 |zero=>cases e1
 |succ k=>
  rw[BK]at e1;obtain⟨bb,h2,e2,e1⟩:=Ev.ai e1;refine⟨r1,ah,h1,bb,h2,BE,hr1,e2,λH2 r2 hr2 f2=>?_⟩;cases bb with
  |false=>
   cases e1;exact q s1 H2 r2 (BE.mono f2) hr2 (f1.trans f2)
  |true=>
   rw[JP rfl]at e1;obtain⟨⟨iy,aq⟩,h3,e3,e1⟩:=Ev.ai e1;exact⟨FN X.K m iy aq h3 r H,λs3 H3 ⟨hfl,r3,yC,mW,f3⟩=>⟨k,abQ k,r3,aq,h3,yC,mW,f3,yz e1 hfl⟩,r2,ah,h2,iy,aq,h3,BE.mono f2,hr2,e3,vD e1 q .refl (f1.trans f2)⟩
def Ly{t:T}{it:Ev.It}{tb:Ss}{yb:List Stmt}(hi:JI G n sc N df m it tg xa)(hg:JG G n sc N df m t tg)(h1:mX G n sc N df m tb yb)(hs:∀(env:Env) x,foldedSetIterable xa env x=pure x:=by intro _ _;rfl) :
  JS G n sc N df m (.for t it tb) (.For tg xa yb [] pos):=λX g=>PS.of (Ku g.pass g.calm (hi X g) (hg X g) (h1 X g) (hs _)) λQ s H q=>by
 obtain⟨r,fr,h,fl,aj,h',sr,hr,e,q⟩:=q;rw[vF]at e;obtain⟨src,h2,e1,e⟩:=Ev.ai e;exact⟨r,fr,h,src,h2,sr,hr,e1,λJ H1 r1 hr1 f1 hJ=>⟨FW X.K m (vE (Ev.run G.F G.w n) G.w t tb) src r1 H1 (fl,aj) h',⟨src.1.length,rfl,aaW _,r1,fr,h2,sr.mono f1,hr1,.refl,by rw[abo];exact e⟩,λi k s3 H3 hW=>DU hJ q f1 hW⟩⟩
end
def getElem?_range'{k j i:Nat}(h:(List.range k)[j]?=some i):i=j:=by
 obtain⟨h1,h2⟩:=List.getElem?_eq_some_iff.mp h;simpa using h2.symm
def DV{K:PySem.W.Frag}{H:Hp}{r:List Addr}{ds:List D}{vs:List V}{N:List Str}{fn:Ev.Fn}(v1:aG K H r ds vs)(hN:vs.length<=N.length):SR K (List.range N.length) H r (Ev.dZ fn ds) (L2.start N vs):=by
 refine⟨by unfold L2.start;simp;omega,λj i d e1 e2=>?_⟩;have e3:=getElem?_range' e1;subst e3;unfold Ev.dZ at e2;by_cases hj:i<ds.length
 .rw[Xk (by simpa using hj),aat]at e2;cases e4:ds[i]? with
  |none=>rw[e4]at e2;cases e2
  |some d'=>
   rw[e4]at e2;cases e2;obtain⟨v,q1,q2⟩:=v1.get e4;refine⟨v,?_,q2⟩;unfold L2.start;rw[Xk (by have:=v1.length;simpa using (by omega:i<vs.length)),aat,q1];rfl
 .rw[aaT (by simpa using Nat.not_lt.mp hj),acH]at e2;split at e2<;>cases e2
section
variable{P:Program}{w:World}{K:PySem.W.Frag}{mg:Str->Option Value}{base:Heap}{G:Tb}
noncomputable def uO(P:Program)(w:World)(K:PySem.W.Frag)(mg:Str->Option Value)(base:Heap)(G:Tb)(n:Nat):Prop:=∀(f:Nat) i,G.fi[f]?=some i->iW P w K mg base ng n i.addr i.fd i.ps (oX K G.F G.w n f)
structure Top(P:Program)(w:World)(K:PySem.W.Frag)(mg:Str->Option Value)(G:Tb):Prop where
 fn:∀(f:Nat) i,G.fi[f]?=some i->mg i.name=some (.ref i.addr)/\PySem.W.keepIn K (.ref i.addr)=true/\Binds K i.fd i.ps []
 bl:∀x∈G.bl,mg x=none
 cs:∀x d,(x,d)∈G.cs->∃v u,mg x=some u/\RelV v u/\yx K d v
 dk:∀x kvs,(x,kvs)∈G.dk->∃a,mg x=some (.ref a)/\∀h:Heap,K.In h->StrTab P w h a (tabOf kvs)
def Ic{f:Addr}{fd:FuncData}{ps:List Str}{k:Nat}:iW P w K mg base ng 0 f fd ps (oX K G.F G.w 0 k):=by
 have no:∀vs H Q E,¬ oX K G.F G.w 0 k vs H Q E:=λvs H Q E h=>by
  obtain⟨r,h,ds,d,h',_,_,e,_⟩:=h;cases e
 exact⟨λvs H Q E h=>absurd h (no vs H Q E),λA outer s H args us vs Q E _ _ _ _ h=>absurd h (no vs H Q E)⟩
def bS{x qual:Str}{st:Stmt}{i:FI}{N:List Str}{n f:Nat}{fn:Ev.Fn}(T:Top P w K mg G)(A0:uO P w K mg base G n)(F:vt K x qual st i.addr i.fd)(S:aY N i.ps (aH st))(hf:G.F[f]?=some fn)(hp:i.ps.length=fn.np)
  (hb:mX G n (aH st) N true (List.range N.length) fn.body (iw st)):iW P w K mg base ng (n+1) i.addr i.fd i.ps (oX K G.F G.w (n+1) f):=by
 have hlen:∀vs H Q E,oX K G.F G.w (n+1) f vs H Q E->vs.length=i.ps.length:=λvs H Q E h=>by
  obtain⟨r,h,ds,d,h',v1,_,e,_⟩:=h;simp only[Ev.qk,hf]at e;split at e
  .rename_i z;rw[v1.length,z,hp]
  .cases e
 refine F.ok S hlen λcdv A outer s H vs Q E hr iu=>?_;have hl:=hlen vs H Q E iu;have hN:vs.length<=N.length:=by
  have:=aab List.length S.pre;rw[aba]at this;omega
 have g:Good G n (aH st) N true (pI ng P w K mg base N qual (aH st) i.addr cdv A outer s H E).sY:=
  ⟨rfl,rfl,rfl,λ_ _=>rfl,hr,rfl,λf i hi=>⟨(T.fn f i hi).1,(T.fn f i hi).2.1,(T.fn f i hi).2.2,A0 f i hi⟩,T.bl,T.cs,T.dk⟩
 refine⟨_,hb _ g,?_⟩;obtain⟨r,h,ds,d,h',v1,hr1,e,q⟩:=iu;simp only[Ev.qk,hf]at e;split at e
 .unfold Ev.endOf at e;obtain⟨⟨fl,aj⟩,h2,e1,e⟩:=Ev.ai e;refine⟨r,Ev.dZ fn ds,h,fl,aj,h2,DV v1 hN,hr1,e1,?_⟩;cases fl with
  |nx=>
   cases e;exact λs' H' r' _ hr' f'=>q _ H' r' rfl hr' f'
  |ret d'=>
   cases e;exact q
  |bk=>cases e
  |ct=>cases e
 .cases e
end
end Sm
namespace Sm
open PySem PySem.Spec PyProof.Rows L2 PySem.SeqAt
open Ev (D O Hh Fr R aP E Es Eo T S Ss Fl Src bJ bx TY BI ME)
end Sm
namespace L2
open PySem PySem.Spec PyProof.Rows
end L2
namespace Sm
open PySem PySem.Spec PyProof.Rows L2 PySem.SeqAt
open Ev (D O Hh Fr R aP E Es Eo T S Ss Fl Src bJ bx TY BI ME)
end Sm
namespace Sm
open PySem PySem.Spec PyProof.Rows L2
open Ev (D O Hh Fr R aP E Es Eo T S Ss Fl Src bJ bx TY BI ME)
theorem rR(env:Env):∀(names:List (Str×NameKind)) (acc:List (Str×Addr)),(∀x,(x,NameKind.free)∈names->∃c,env.cells.lookup x=some c)->(∀x c,acc.lookup x=some c->env.cells.lookup x=some c)->
  ∃cl,(forIn names acc (λ(x:Str×NameKind) cs=>if (x.2==NameKind.free)=true then (do let c <-cellOf env x.1;pure (ForInStep.yield ((x.1,c) :: cs)))else pure (ForInStep.yield cs)):Sem (List (Str×Addr)))=pure cl/\
   (∀x c,cl.lookup x=some c->env.cells.lookup x=some c)/\(∀x,(x,NameKind.free)∈names->(cl.lookup x).isSome=true)/\(∀x,(acc.lookup x).isSome=true->(cl.lookup x).isSome=true)
 |[],acc,_,h2=>⟨acc,rfl,h2,(λx h=>by simp at h),λ_ h=>h⟩
 | (y,k) :: r,acc,h1,h2=>by
  by_cases hk:k=.free
  .subst hk;obtain⟨c,hc⟩:=h1 y (aaG ..);have h2':∀x c',((y,c) :: acc).lookup x=some c'->env.cells.lookup x=some c':=λx c' e=>by
    rw[aa0]at e;split at e
    .rename_i hx;have hx':x=y:=by simpa using hx
     cases e;rw[hx'];exact hc
    .exact h2 x c' e
   obtain⟨cl,e1,e2,e3,e4⟩:=rR env r ((y,c) :: acc) (λx hx=>h1 x (aag _ hx)) h2';refine⟨cl,?_,e2,λx hx=>?_,λx hx=>e4 x ?_⟩
   .rw[aa5];simp only[beq_self_eq_true,aal];unfold cellOf;rw[hc];exact e1
   .rcases List.mem_cons.mp hx with z|z
    .cases z;exact e4 y (by simp[aa0])
    .exact e3 x z
   .rw[aa0];split
    .rfl
    .exact hx
  .have hk':(k==NameKind.free)=false:=by simpa using hk
   obtain⟨cl,e1,e2,e3,e4⟩:=rR env r acc (λx hx=>h1 x (aag _ hx)) h2;refine⟨cl,?_,e2,λx hx=>?_,e4⟩
   .rw[aa5];simp only[hk',aai,aaL];exact e1
   .rcases List.mem_cons.mp hx with z|z
    .cases z;exact absurd rfl hk
    .exact e3 x z
def Ie{scope:Scope}{env:Env}(h:∀x,(x,NameKind.free)∈scope.names->∃c,env.cells.lookup x=some c) :
  ∃cl,closureFor scope env=pure cl/\(∀x c,cl.lookup x=some c->env.cells.lookup x=some c)/\∀x,(x,NameKind.free)∈scope.names->∃c,cl.lookup x=some c:=by
 obtain⟨cl,e1,e2,e3,_⟩:=rR env scope.names [] h (λx c e=>by simp at e);refine⟨cl,?_,e2,λx hx=>Option.isSome_iff_exists.mp (e3 x hx)⟩;unfold closureFor;show(forIn scope.names [] _ >>= λcs=>pure cs:Sem (List (Str×Addr)))=pure cl;have e:(forIn scope.names [] (λ(x:Str×NameKind) cs=>if (x.2==NameKind.free)=true then (do let c <-cellOf env x.1;pure (ForInStep.yield ((x.1,c) :: cs)))else pure (ForInStep.yield cs)):Sem (List (Str×Addr)))=pure cl:=e1;exact aab (λt:Sem (List (Str×Addr))=>t >>= λcs=>pure cs) e
noncomputable def fN(sc scope:Scope):Scope:={ scope with names:=scope.names.map λ(n,k)=>if (k==.free&&sc.kind==.function&&sc.names.lookup n==some .cell)then (n,.cell)else (n,k)}
def rS{env:Env}{sc scope:Scope}(h:env.scope=sc):relabel scope env=fN sc scope:=by
 subst h;rfl
theorem tS{sc:Scope}:∀{names:List (Str×NameKind)}{x:Str},(∀y∈names,y.2≠.cell)->
  ((names.map λ(n,k)=>if (k==NameKind.free&&sc.kind==.function&&sc.names.lookup n==some .cell)then (n,NameKind.cell)else (n,k)).lookup x=some .cell\/
   (names.map λ(n,k)=>if (k==NameKind.free&&sc.kind==.function&&sc.names.lookup n==some .cell)then (n,NameKind.cell)else (n,k)).lookup x=some .free)->(x,NameKind.free)∈names
 |[],_,_,h=>by rcases h with h|h<;>simp at h
 | (n,k) :: r,x,hc,h=>by
  have ih:=@tS sc r x λy hy=>hc y (aag _ hy);simp only[Uz]at h;have nk:∀(k':NameKind),(if (k==NameKind.free&&sc.kind==.function&&sc.names.lookup n==some .cell)then (n,NameKind.cell)else (n,k))=(n,k')->k'=.cell\/k'=.free->k=.free:=λk' e hk'=>by
   split at e
   .rename_i z;simp only[xg,acR]at z;exact z.1.1
   .cases e;rcases hk' with z|z
    .exact absurd z (hc (n,_) (aaG ..))
    .exact z
  generalize hg:(if (k==NameKind.free&&sc.kind==.function&&sc.names.lookup n==some .cell)then (n,NameKind.cell)else (n,k))=p at h nk
  have hp:p.1=n:=by rw[<-hg];split<;>rfl
  obtain⟨p1,p2⟩:=p;simp only at hp;subst hp;simp only[aa0]at h;cases hx:(x==p1)with
  |true=>
   have hx':x=p1:=by simpa using hx
   rw[hx]at h;have:=nk p2 rfl (by rcases h with h|h<;>simp at h<;>simp[h]);subst this;rw[hx'];exact aaG ..
  |false=>
   rw[hx]at h;exact aag _ (ih h)
section
variable{prog:Program}{w:World}{A:Around}{R':Result->Shared->Prop}{s:Shared}
abbrev eS:Value->Shared->Prop:=λ_ _=>False
noncomputable def yD(ifs:List Expr)(env:Env):Sem Bool:=forIn ifs true λc r=>if r=true then do let ok <-isTrue c env (eval c env);pure (ForInStep.yield ok)else pure (ForInStep.yield r)
def vG{elt target iter:Expr}{ifs:List Expr}{scope:Scope}{pos:Pos}{it acc:Value}{env:Env}(I:Nat->Shared->Prop)
  (turn:∀n s,I n s->wpAny (model prog w) A (pyNext it) (λr s₁=>match r with
   |none=>R' (.ok .next) s₁
   |some v=>wpAny (model prog w) A (letOwnedTupleGo target it v) (λ_ s₂=>wpAny (model prog w) A (assign target env v) (λ_ s₃=>
     wpAny (model prog w) A (yD ifs env) (λok s₄=>
      if ok=true then wpAny (model prog w) A (eval elt env) (λx s₅=>
       wpAny (model prog w) A (call (.builtin "list.append") [acc,x]) (λ_ s₆=>∃m,m<n/\I m s₆) eS s₅) eS s₄
      else ∃m,m<n/\I m s₄) eS s₃) eS s₂) eS s₁) eS s)
  (n:Nat) (h:I n s):codeAny (model prog w) A (.compLoop (.ListComp elt [⟨target,iter,ifs,0⟩] scope pos) 0 it acc env) R' s:=by
 refine codeAny_loop rfl I (λn s hI=>?_) n h;show wpAny _ A ((compTurn (.ListComp elt [⟨target,iter,ifs,0⟩] scope pos) 0 it acc env).onRaise (λx=>do noteFrame x env;theTreesLotGoes x)) _ _ s;refine wpAny_noted ?_;rw[compTurn_list];refine gF (wpAny_standAt (gF (aa1 (turn n s hI) (λr s₁ h₁=>?_) λ_ _ h'=>h'.elim)));cases r with
 |none=>exact uq h₁
 |some v=>
  refine gF (aa1 h₁ (λ_ s₂ h₂=>?_) λ_ _ h'=>h'.elim);refine gF (aa1 h₂ (λ_ s₃ h₃=>gF (aa1 h₃ (λok s₄ h₄=>?_) λ_ _ h'=>h'.elim)) λ_ _ h'=>h'.elim);cases ok with
  |false=>exact uq ⟨rfl,h₄⟩
  |true=>
   exact gF (gF (aa1 h₄ (λx s₅ h₅=>gF (aa1 h₅ (λ_ s₆ h₆=>uq (uq ⟨rfl,h₆⟩)) λ_ _ h'=>h'.elim)) λ_ _ h'=>h'.elim))
end
inductive T6(K:PySem.W.Frag)(m:List Nat)(P:aP)(e:Eo)(s:L2.St)(H:Hp)(Q:Bool->Hp->Prop):Prop
 |mk (r:List Addr) (fr:Fr) (h:Hh) (k:Bool) (h':Hh) (c0:SR K m H r fr s) (c1:HR K H r h) (c2:Ev.iK P e fr h=.ok k h') (c3:∀H' r',HR K H' r' h'->Fm K r r' H H'->Q k H'):T6 K m P e s H Q
noncomputable def JC(G:Tb)(n:Nat)(sc:Scope)(N:List Str)(df:Bool)(m:List Nat)(e:Eo)(ifs:List Expr):Prop:=∀X,Good G n sc N df X->∀(pins:List (Addr×Obj)) (s:Shared) (σ:L2.St) (H:Hp) (Q:Bool->Hp->Prop),Inv X pins σ H s->
 T6 X.K m (Ev.run G.F G.w n) e σ H Q->wpAny (model X.prog X.w) X.A (yD ifs X.env) (TP X pins σ Q) X.xe s
section
variable{G:Tb}{n:Nat}{sc:Scope}{N:List Str}{df:Bool}{m:List Nat}{a:E}{xa:Expr}
def QH:JC G n sc N df m .no []:=λX g pins s σ H Q I q=>by
 obtain⟨r,fr,h,k,h',sr,hr,e,q⟩:=q;simp only[Ev.iK]at e;cases e;exact uq ⟨H,I,q H r hr .refl⟩
def Lz(hc:JT G n sc N df m a xa):JC G n sc N df m (.yes a) [xa]:=λX g pins s σ H Q I q=>by
 obtain⟨r,fr,h,k,h',sr,hr,e,q⟩:=q;simp only[Ev.iK]at e;exact wpAny_tests_one (hc X g pins s σ H Q I ⟨r,fr,h,k,h',sr,hr,e,q⟩)
end
noncomputable def qp(X:Cx)(N':List Str)(scope:Scope)(cl:List (Str×Addr))(C:Addr)(s3:Shared)(H3:Hp)(fp:List Addr):Cx:=
 { X with N:=N',s₀:=s3,H₀:=H3,env:=compEnvC scope cl C X.env,outer:=X.stack,stack:=X.stack,ex:=fp,fn:=λ_=>false,pn:=[],xe:=λ_ _=>False }
noncomputable def namesOk(sc:Scope)(N:List Str)(m:List Nat)(scope:Scope)(t:T)(N':List Str)(m':List Nat):Prop:=m'.length=N'.length/\
 ∀(j:Nat) x i,N'[j]?=some x->m'[j]?=some i->i∈Ev.slots t\/((x,NameKind.free)∈scope.names/\∃jo:Nat,N[jo]?=some x/\m[jo]?=some i)
noncomputable def qq(sc:Scope)(N:List Str)(m:List Nat)(scope:Scope)(t:T)(N':List Str)(m':List Nat):Bool:=m'.length==N'.length&&
 (List.range N'.length).all λj=>match N'[j]?,m'[j]? with
  |some x,some i=>(Ev.slots t).contains i || (scope.names.contains (x,NameKind.free)&&(List.range N.length).any λjo=>N[jo]?==some x&&m[jo]?==some i)
  |_,_=>true
def namesOk.of{sc:Scope}{N:List Str}{m:List Nat}{scope:Scope}{t:T}{N':List Str}{m':List Nat}(h:qq sc N m scope t N' m'=true):namesOk sc N m scope t N' m':=by
 unfold qq at h;rw[xg]at h;refine⟨by simpa using h.1,λj x i e1 e2=>?_⟩;have hj:j<N'.length:=(List.getElem?_eq_some_iff.mp e1).1;have q:=List.all_eq_true.mp h.2 j (List.mem_range.mpr hj);rw[e1,e2]at q;simp only[aaQ,xg,abR]at q;rcases q with q|⟨q1,jo,_,q2⟩
 .exact .inl (by simpa using q)
 .exact .inr ⟨by simpa using q1,jo,by simpa using q2.1,by simpa using q2.2⟩
def xT{t:T}{d:D}{fr aq:Fr}(e:Ev.cJ t d fr=some aq){i:Nat}(hi:i∉Ev.slots t):aq[i]?=fr[i]?:=by
 have go:∀(l:List Nat) (ds:List D) (fr aq:Fr),Ev.cW l ds fr=some aq->i∉l->aq[i]?=fr[i]?:=by
  intro l;induction l with
  |nil=>
   intro ds fr aq e _;cases ds with
   |nil=>cases e;rfl
   |cons _ _=>cases e
  |cons j l ih=>
   intro ds fr aq e hj;cases ds with
   |nil=>cases e
   |cons d ds=>
    rw[ih ds _ _ e λz=>hj (aag _ z),WD];intro z;exact hj (by rw[z];exact aaG ..)
 cases t with
 |one j=>
  cases e;rw[WD];intro z;exact hi (by simp[Ev.slots,z])
 |many l=>
  cases d with
  |tup ds=>exact go l ds fr aq e hi
  |_=>cases e
def SR.unbind{K:PySem.W.Frag}{m:List Nat}{H:Hp}{r:List Addr}{t:T}{d:D}{fr aq:Fr}{s:L2.St}(sr:SR K m H r aq s)(e:Ev.cJ t d fr=some aq)(hu:Ev.undef t fr=true):SR K m H r fr s:=by
 refine⟨sr.len,λj i d' e1 e2=>sr.sl j i d' e1 ?_⟩;rw[xT e]
 .exact e2
 .intro hi;have q:=List.all_eq_true.mp hu i hi;rw[e2]at q;cases q
structure kP(sc scope:Scope):Prop where
 kind:scope.kind=.function
 BL:∀y∈scope.names,y.2≠.cell
 free:∀x,(x,NameKind.free)∈scope.names->(sc.names.lookup x=some .cell\/sc.names.lookup x=some .free)/\scope.names.lookup x=some .free
 loc:∀y∈scope.names,y.2=.local->scope.names.lookup y.1=some .local
noncomputable def Gu(sc scope:Scope):Bool:=scope.kind==.function&&scope.names.all λy=>y.2 != .cell&&(y.2 != .free || ((sc.names.lookup y.1==some .cell ||sc.names.lookup y.1==some .free)&&scope.names.lookup y.1==some .free))&&(y.2 != .local ||scope.names.lookup y.1==some .local)
def kP.of{sc scope:Scope}(h:Gu sc scope=true):kP sc scope:=by
 unfold Gu at h;rw[xg]at h;have q:∀y∈scope.names,y.2≠.cell/\(y.2=.free->(sc.names.lookup y.1=some .cell\/sc.names.lookup y.1=some .free)/\scope.names.lookup y.1=some .free)/\(y.2=.local->scope.names.lookup y.1=some .local):=λy hy=>by
  have z:=List.all_eq_true.mp h.2 y hy;simp only[xg,aaQ,bne_iff_ne,acR,ne_eq]at z;refine⟨z.1.1,λe=>?_,λe=>?_⟩
  .rcases z.1.2 with w|w
   .exact absurd e w
   .exact w
  .rcases z.2 with w|w
   .exact absurd e w
   .exact w
 exact⟨by simpa using h.1,λy hy=>(q y hy).1,λx hx=>(q _ hx).2.1 rfl,λy hy=>(q y hy).2.2⟩
theorem tT{sc:Scope}:∀{names:List (Str×NameKind)}{x:Str},names.lookup x=some .free->
  ((names.map λ(n,k)=>if (k==NameKind.free&&sc.kind==.function&&sc.names.lookup n==some .cell)then (n,NameKind.cell)else (n,k)).lookup x=some .cell\/
   (names.map λ(n,k)=>if (k==NameKind.free&&sc.kind==.function&&sc.names.lookup n==some .cell)then (n,NameKind.cell)else (n,k)).lookup x=some .free)
 |[],_,h=>by simp at h
 | (n,k) :: r,x,h=>by
  have ih:=@tT sc r x;simp only[Uz];simp only[aa0]at h;by_cases hc:(k==NameKind.free&&sc.kind==.function&&sc.names.lookup n==some .cell)=true
  .rw[JP hc];simp only[aa0];cases hx:(x==n)with
   |true=>exact .inl rfl
   |false=>rw[hx]at h;exact ih h
  .rw[Yu hc];simp only[aa0];cases hx:(x==n)with
   |true=>rw[hx]at h;exact .inr h
   |false=>rw[hx]at h;exact ih h
section
variable{G:Tb}{n:Nat}{sc scope:Scope}{N N':List Str}{df:Bool}{m m':List Nat}{t:T}{X:Cx}
def Good.comp(g:Good G n sc N df X){cl:List (Str×Addr)}{C:Addr}{s3:Shared}{H3:Hp}{fp:List Addr}:Good G n (fN sc scope) N' false (qp X N' scope cl C s3 H3 fp):=
 ⟨rfl,rS g.sc,g.calm,(λh=>by cases h),g.room,rfl,g.fn,g.bl,g.cs,g.dk⟩
def Ig{pins:List (Addr×Obj)}{σ:L2.St}{H3:Hp}{s3:Shared}(g:Good G n sc N df X)(I:Inv X pins σ H3 s3)(hs:kP sc scope){cl:List (Str×Addr)}(iM:∀x c,cl.lookup x=some c->X.env.cells.lookup x=some c)
  (kQ:∀x,(x,NameKind.free)∈scope.names->∃c,cl.lookup x=some c) {fp:List Addr} (hfp:∀b∈fp,iI X pins H3 b) (hfl:∀b∈fp,b<s3.heap.objs.size):(qp X N' scope cl s3.heap.objs.size s3 H3 fp).Ok where
 mod:=I.ok.mod
 kind:=hs.kind
 glob:=I.ok.glob
 blt:=I.ok.blt
 above:=WE _
 inj:=λx y c h1 h2=>I.ok.inj x y c (iM x c h1) (iM y c h2)
 has:=λx h=>by
  have h':(fN sc scope).names.lookup x=some .cell\/(fN sc scope).names.lookup x=some .free:=by
   rw[<-rS (scope:=scope) g.sc];exact h
  exact kQ x (tS hs.BL h')
 yj:=λx c h=>by cases h
 hd:=I.ok.hd
 frames:=I.ok.frames
 stk:=.inl rfl
 Gb:=λb hb=>⟨aaq (hfl b hb),λx c e=>(hfp b hb).2.2.2.2.1 x c (iM x c e)⟩
 bs:=I.bs
 sW:=aaa I.ok.sW I.sz
 rG:=λb o e hb=>by
  rcases(hfp b hb).2.2.2.1 with z|z
  .exact I.ok.rG b o e z
  .have:=Xl (I.ok.bs b o e).1;exact absurd (P6 this z) (aaB _)
 rJ:=λb hb z=>by
  rcases List.mem_cons.mp (I.vc b z)with q|q
  .exact(hfp b hb).2.1 q
  .exact(hfp b hb).2.2.1 q
 jr:=I.stack
 u7:=I.yk
open Classical in
noncomputable def sig(scope:Scope)(N N':List Str)(m':List Nat)(K:PySem.W.Frag)(H:Hp)(r:List Addr)(fr:Fr)(σ:L2.St):L2.St:=
 (List.range N'.length).map λj=>if h:∃v,∃x i,N'[j]?=some x/\m'[j]?=some i/\(x,NameKind.free)∈scope.names/\(∃jo:Nat,N[jo]?=some x/\σ[jo]?=some (some v))/\∀d,fr[i]?=some (some d)->RV K H r d v then some h.choose else none
def LA{K:PySem.W.Frag}{H:Hp}{r:List Addr}{fr:Fr}{σ:L2.St}{j:Nat}{v:V}(h:(sig scope N N' m' K H r fr σ)[j]?=some (some v)) :
  ∃x i,N'[j]?=some x/\m'[j]?=some i/\(x,NameKind.free)∈scope.names/\(∃jo:Nat,N[jo]?=some x/\σ[jo]?=some (some v))/\∀d,fr[i]?=some (some d)->RV K H r d v:=by
 unfold sig at h;rw[aat]at h;cases e:(List.range N'.length)[j]? with
 |none=>rw[e]at h;cases h
 |some j'=>
  have:=getElem?_range' e;subst this;rw[e]at h;simp only[Option.map_some,abH]at h;split at h
  .rename_i hh;cases h;exact hh.choose_spec
  .cases h
def LC{K:PySem.W.Frag}{H:Hp}{r:List Addr}{fr:Fr}{σ:L2.St}(sr:SR K m H r fr σ)(hn:namesOk sc N m scope t N' m')(hu:Ev.undef t fr=true):SR K m' H r fr (sig scope N N' m' K H r fr σ):=by
 refine⟨by unfold sig;simp[hn.1],λj i d e1 e2=>?_⟩;have hj:j<N'.length:=by rw[<-hn.1];exact(List.getElem?_eq_some_iff.mp e1).1
 have hx:N'[j]?=some N'[j]:=Uy hj;rcases hn.2 j _ i hx e1 with hi|⟨h1,jo,h2,h3⟩
 .exfalso;have q:=List.all_eq_true.mp hu i hi;rw[e2]at q;cases q
 .obtain⟨v,h4,h5⟩:=sr.sl jo i d h3 e2;have ex:∃v,∃x i,N'[j]?=some x/\m'[j]?=some i/\(x,NameKind.free)∈scope.names/\(∃jo:Nat,N[jo]?=some x/\σ[jo]?=some (some v))/\∀d,fr[i]?=some (some d)->RV K H r d v:=
   ⟨v,N'[j],i,hx,e1,h1,⟨jo,h2,h4⟩,λd' e'=>by rw[e2]at e';cases e';exact h5⟩
  refine⟨ex.choose,?_,?_⟩
  .unfold sig;rw[aat,abu hj];simp only[Option.map_some];rw[dif_pos ex]
  .obtain⟨x',i',q1,q2,q3,q4,q5⟩:=ex.choose_spec;rw[e1]at q2;cases q2;exact q5 d e2
def DW{pins:List (Addr×Obj)}{σ:L2.St}{H3:Hp}{s3:Shared}(g:Good G n sc N df X)(I:Inv X pins σ H3 s3)(hs:kP sc scope){cl:List (Str×Addr)}(iM:∀x c,cl.lookup x=some c->X.env.cells.lookup x=some c)
  (kQ:∀x,(x,NameKind.free)∈scope.names->∃c,cl.lookup x=some c) {fp:List Addr} (hfp:∀b∈fp,iI X pins H3 b) (hfl:∀b∈fp,b<s3.heap.objs.size) {h1:Heap} {tk:Nat} {mm:Str->Option Value}
  (hns:h1.Ns s3.heap.objs.size mm) (hk:∀b o,s3.heap.get? b=some o->h1.get? b=some o) {r:List Addr} {fr:Fr} :
  Inv (qp X N' scope cl s3.heap.objs.size s3 H3 fp) [] (sig scope N N' m' X.K H3 r fr σ) H3 { s3 with heap:=h1,toks:=tk }:=by
 refine⟨Ig g I hs iM kQ hfp hfl,rfl,I.bare,Un.kept hk,⟨mm,hns,λj x v e1 e2 e3=>?_⟩,λx c e=>?_,I.hok.fresh (WE _),λx c e=>I.jf x c (iM x c e),(λp hp=>by simp[qp]at hp),I.hok.kept hk,(by unfold sig;simp[qp])⟩
 .obtain⟨x',i,q1,q2,q3,⟨jo,q4,q5⟩,_⟩:=LA e2;have XA:N'[j]?=some x:=e1;rw[XA]at q1;cases q1;obtain⟨f1,f2⟩:=hs.free x q3;obtain⟨mO,Y9,XC⟩:=I.loc;obtain⟨u,ru,lk⟩:=XC jo x v (by rw[g.nm];exact q4) q5 (by rw[g.sc];rcases f1 with z|z<;>simp[A8,z]);refine⟨u,ru,?_⟩;have hkd:X.env.kindOf x=some .cell\/X.env.kindOf x=some .free:=by unfold Env.kindOf;rw[g.sc];exact f1
  rcases lk with ⟨z,_⟩|⟨_,c,hc,hcell⟩
  .rcases hkd with w|w <;> (rw[z]at w;cases w)
  .obtain⟨c',hc'⟩:=kQ x q3;have:c'=c:=by
    have:=iM x c' hc';rw[hc]at this;cases this;rfl
   subst this;refine .inr ⟨?_,c',hc',?_⟩
   .show(relabel scope X.env).names.lookup x=some .cell\/(relabel scope X.env).names.lookup x=some .free;rw[rS (scope:=scope) g.sc];exact tT f2
   .obtain⟨o,ho,hd⟩:=hcell;exact⟨o,hk _ _ ho,hd⟩
 .obtain⟨v,o,ho,hd⟩:=I.cell x c (iM x c e);exact⟨v,o,hk _ _ ho,hd⟩
end
section
variable{G:Tb}{n:Nat}{sc scope:Scope}{N N':List Str}{df:Bool}{m m':List Nat}{elt:E}{t:T}{it:Ev.It}{cond:Eo}{xe xi tg:Expr}{ifs:List Expr}{pos:Pos}{X:Cx}
noncomputable def zU(P:aP)(elt:E)(t:T)(cond:Eo)(fr:Fr):D->Hh->R (Option D):=λd h2=>match Ev.cJ t d fr with
 |none=>.bad
 |some aq=>(Ev.iK P cond aq h2).bind λk h3=>if k then (Ev.ev P elt aq h3).bind λx h4=>.ok (some x) h4 else .ok none h3
def rT(P:aP)(elt:E)(t:T)(it:Ev.It)(cond:Eo)(fr:Fr)(h:Hh):Ev.ev P (.comp elt t it cond) fr h=(Ev.cT P it fr h).bind λs h1=>if Ev.undef t fr then
  (Ev.bR (zU P elt t cond fr) s.2 s.1 h1).bind λds h2=>Ev.alloc ds h2 else .bad:=by
 simp only[Ev.ev];rfl
noncomputable def CI(Y:Cx)(m':List Nat)(f:D->Hh->R (Option D))(fr:Fr)(src:Src)(fp:List Addr)(tn:Nat->Heap->Prop)(r2:List Addr)(H2:Hp)(Dd:Addr)(ds:List D)(h2:Hh)(k:Nat)(s:Shared):Prop:=
 ∃i oY Hc rc hc dn vs rest,Inv Y [] oY Hc s/\tn i s.heap/\(∀b∈fp,Hc b=none)/\k=src.1.length - i/\i<=src.1.length/\
  SR Y.K m' Hc rc fr oY/\HR Y.K Hc rc hc/\Fm Y.K r2 rc H2 Hc/\Hc Dd=some (.lst vs)/\Dd∉rc/\aG Y.K Hc rc dn vs/\Ev.bR f src.2 (src.1.drop i) hc=.ok rest h2/\dn++rest=ds
section
variable{Y:Cx}{sc':Scope}{J:L2.It}{fp:List Addr}{ita:Addr}{tn:Nat->Heap->Prop}{fr:Fr}{src:Src}{r2:List Addr}{H2:Hp}{Dd:Addr}{ds:List D}{h2:Hh}
def zV(gC:Good G n sc' N' false Y){α:Type}{tt:Sem α}{Q:α->Shared->Prop}{s:Shared}(hw:wpAny (model Y.prog Y.w) Y.A tt Q Y.xe s):wpAny (model Y.prog Y.w) Y.A tt Q eS s:=by rw[gC.xe]at hw;exact hw
def yE{i:Nat}{mY:L2.St}{H9:Hp}{r9:List Addr}{h9:Hh}{dn:List D}{vs:List V}{rest':List D}{s9:Shared}{p:List (Addr×Obj)}{f:D->Hh->R (Option D)}(hlt:i<src.1.length)(I9:Inv Y ([]++p) mY H9 s9)(bk:tn (i+1) s9.heap/\∀b∈fp,H9 b=none)(q:SR Y.K m' H9 r9 fr mY)(tU:HR Y.K H9 r9 h9)(fm:Fm Y.K r2 r9 H2 H9)(zW:H9 Dd=some (.lst vs))(zX:Dd∉r9)(rv:aG Y.K H9 r9 dn vs)(e7:Ev.bR f src.2 (src.1.drop (i+1)) h9=.ok rest' h2)(ed:dn++rest'=ds) :
  ∃k,k<src.1.length - i/\CI Y m' f fr src fp tn r2 H2 Dd ds h2 k s9:=
 ⟨src.1.length - (i+1),acY hlt (abQ i),i+1,mY,H9,r9,h9,dn,vs,rest',I9.lZ,bk.1,bk.2,rfl,hlt,q,tU,fm,zW,zX,rv,e7,ed⟩
def LF{i:Nat}{mY:L2.St}{H9:Hp}{r9:List Addr}{h9:Hh}{dn:List D}{vs:List V}{xd:D}{v10:V}{Gv:Value}{rest':List D}{s9:Shared}{p:List (Addr×Obj)}{f:D->Hh->R (Option D)}(hlt:i<src.1.length)(nj:H2 Dd=none)(hsz:ds.length<=sizeLine)(gC:Good G n sc' N' false Y)(I9:Inv Y ([]++p) mY H9 s9)(DX:RelV v10 Gv)(bk:∀{σ':L2.St}{H':Hp}{s':Shared},Inv Y ([]++p) σ' H' s'->tn (i+1) s'.heap/\∀b∈fp,H' b=none)(q:SR Y.K m' H9 r9 fr mY)(tU:HR Y.K H9 r9 h9)(fm:Fm Y.K r2 r9 H2 H9)(oZ:H9 Dd=some (.lst vs))(vH:Dd∉r9)(rv:aG Y.K H9 r9 dn vs)(DY:RV Y.K H9 r9 xd v10)(e7:Ev.bR f src.2 (src.1.drop (i+1)) h9=.ok rest' h2)(ed:dn++xd :: rest'=ds) :
  wpAny (model Y.prog Y.w) Y.A (call (.builtin "list.append") [.ref Dd,Gv]) (λ_ Gw=>∃k,k<src.1.length - i/\CI Y m' f fr src fp tn r2 H2 Dd ds h2 k Gw) eS s9:=by
 have hlen:vs.length<sizeLine:=by
  have h1:=rv.length;have h2:=aab List.length ed;simp at h2;omega
 refine bF (zV gC (tM _ s9 mY H9 (.ref Dd) [v10] (.ref Dd) [Gv] (λ_ T7=>T7=upd H9 Dd (.lst (vs++[v10]))) I9 rfl (.cons DX .nil) ⟨Dd,vs,v10,rfl,rfl,oZ,hlen,rfl⟩)) λ_ Gw ⟨_,T7,T8,_,We⟩=>?_;subst We;refine yE (dn:=dn++[xd]) (vs:=vs++[v10]) hlt T8 (bk T8) ?_ (tU.other oZ vH) (fm.other nj oZ) g8 vH ?_ e7 ?_
 .exact⟨q.len,λj i' d' a1 a2=>by
   obtain⟨w,b1,b2⟩:=q.sl j i' d' a1 a2;exact⟨w,b1,b2.grow (λ_ _ z=>z) (iL oZ)⟩⟩
 .exact(rv.append (.cons DY .nil)).grow (λ_ _ z=>z) (iL oZ)
 .rw[<-ed];simp
def BN(gC:Good G n sc' N' false Y)(hg:JG G n sc' N' false m' t tg)(hc:JC G n sc' N' false m' cond ifs)(he:JE G n sc' N' false m' elt xe)(Tn:Turn Y.prog Y.w Y.K tg J fp ita tn)(mh:∀{Hc:Hp},(∀b∈fp,Hc b=none)->∀b∈fp,iI Y [] Hc b)
  (hu:Ev.undef t fr=true) (hJ:rQ Y.K r2 H2 src J) (nj:H2 Dd=none) (hsz:ds.length<=sizeLine) {R':Result->Shared->Prop}
  (Wf:∀s6 oY Hc rc vs,Inv Y [] oY Hc s6->HR Y.K Hc rc h2->Fm Y.K r2 rc H2 Hc->Hc Dd=some (.lst vs)->Dd∉rc->aG Y.K Hc rc ds vs->R' (.ok .next) s6) {k:Nat} {s:Shared}
  (h:CI Y m' (zU (Ev.run G.F G.w n) elt t cond fr) fr src fp tn r2 H2 Dd ds h2 k s):codeAny (model Y.prog Y.w) Y.A (.compLoop (.ListComp xe [⟨tg,xi,ifs,0⟩] scope pos) 0 (.ref ita) (.ref Dd) Y.env) R' s:=by
 refine vG (CI Y m' (zU (Ev.run G.F G.w n) elt t cond fr) fr src fp tn r2 H2 Dd ds h2) ?_ k h;rintro k s5 ⟨i,oY,Hc,rc,hc',dn,vs,rest,I5,yp,tu,rfl,hle,BJ,tR,vI,oZ,vH,BO,e5,Gx⟩;rcases Nat.lt_or_ge i src.1.length with hlt|hge
 .rw[acv hlt]at e5;simp only[Ev.bR]at e5;split at e5
  .rename_i hst;obtain⟨hgo,_⟩:=hJ i Hc rc hc' tR vI hst;obtain⟨g1,g2⟩:=hgo src.1[i] (Uy hlt);obtain⟨o,h6,e6,e5⟩:=Ev.ai e5;obtain⟨rest',h7,e7,e5⟩:=Ev.ai e5;cases e5;refine bF (Tn.item Y rfl rfl rfl gC.calm i [] s5 oY Hc eS I5 (mh tu) yp g1) λrr s6 ⟨u,XD,h8⟩=>?_;subst XD;refine bF h8 λ_ s7 ⟨x,H7,I7,rx,y7,LG,XE⟩=>?_;obtain⟨r7,v7,T9,yF⟩:=g2 x H7 y7;obtain⟨Wg,Wh⟩:=yF.fq oZ vH;unfold zU at e6;split at e6
   .cases e6
   .rename_i aq eb;obtain⟨kk,h9,e9,e6⟩:=Ev.ai e6;have XF:=I7.pinned (mh XE) (Tn.obj _ _ LG);refine bF (zV gC (hg _ gC _ s7 oY H7 x u (λmY H8=>H8=H7/\SR Y.K m' H7 r7 aq mY) XF rx ⟨r7,fr,hc',_,aq,BJ.mono yF,T9,v7,eb,λs' q=>⟨rfl,q⟩⟩)) λ_ s8 ⟨mY,H8,I8,XG,Gy⟩=>?_;subst XG;refine bF (zV gC (hc _ gC _ s8 mY _ (λb H9=>b=kk/\∃r9,HR Y.K H9 r9 h9/\Fm Y.K r7 r9 _ H9) I8 ⟨r7,aq,hc',kk,h9,Gy,T9,e9,λH9 r9 tU f9=>⟨rfl,r9,tU,f9⟩⟩)) λbb s9 ⟨H9,I9,K1,r9,tU,tV⟩=>?_;subst K1;obtain⟨zX,zW⟩:=tV.fq Wh Wg;have back:∀{σ':L2.St} {H':Hp} {s':Shared},Inv Y ([]++m6 fp s7.heap) σ' H' s'->tn (i+1) s'.heap/\∀b∈fp,H' b=none:=λ{σ' H' s'} I'=>
     ⟨Tn.keep _ _ _ LG λb hb o e=>(I'.pin (b,o) (aap _ (aap _ (jB hb e)))).1,λb hb=>
      let ⟨o,e,_⟩:=Tn.obj _ _ LG b hb
      (I'.pin (b,o) (aap _ (aap _ (jB hb e)))).2.1⟩
    cases bb with
    |false=>
     simp only[aai,aaL]at e6 ⊢;cases e6;exact yE hlt I9 (back I9) ((Gy.mono tV).unbind eb hu) tU ((vI.trans yF).trans tV) zW zX ((BO.mono yF).mono tV) e7 Gx
    |true=>
     simp only[aal]at e6 ⊢;obtain⟨xd,Za,XH,e6⟩:=Ev.ai e6;cases e6;refine bF (zV gC (he _ gC _ s9 mY H9 (λv BP=>∃yG,RV Y.K BP yG xd v/\HR Y.K BP yG _/\Fm Y.K r9 yG H9 BP) I9 ⟨r9,aq,h9,xd,_,Gy.mono tV,tU,XH,λv BP yG v10 DZ BQ=>⟨yG,v10,DZ,BQ⟩⟩)) λGv Ua ⟨v10,BP,XI,DX,yG,DY,DZ,zY⟩=>?_;obtain⟨QI,QJ⟩:=zY.fq zW zX;exact LF hlt nj hsz gC XI DX back (((Gy.mono tV).mono zY).unbind eb hu) DZ (((vI.trans yF).trans tV).trans zY) QJ QI (((BO.mono yF).mono tV).mono zY) DY e7 Gx
  .cases e5
 .have hi':i=src.1.length:=Nat.le_antisymm hle hge;subst hi';rw[List.drop_length]at e5;simp only[Ev.bR]at e5;split at e5
  .rename_i hst;cases e5;refine bF (Tn.done Y rfl rfl rfl gC.calm _ [] s5 oY Hc eS I5 (mh tu) yp ((hJ _ Hc rc _ tR vI hst).2 (WE _))) λrr s6 ⟨hrr,I6⟩=>?_;subst hrr;rw[aao]at Gx;subst Gx;exact Wf s6 oY Hc rc vs I6 tR vI oZ vH BO
  .cases e5
end
def tW(g:Good G n sc N df X)(hi:JI G n sc N df m it tg xi)(hg:JG G n (fN sc scope) N' false m' t tg)(hc:JC G n (fN sc scope) N' false m' cond ifs)(he:JE G n (fN sc scope) N' false m' elt xe)
  (hn:namesOk sc N m scope t N' m') (hs:kP sc scope) {cl:List (Str×Addr)} (iM:∀x c,cl.lookup x=some c->X.env.cells.lookup x=some c) (kQ:∀x,(x,NameKind.free)∈scope.names->∃c,cl.lookup x=some c)
  {pins:List (Addr×Obj)} {σ:L2.St} {H:Hp} {s:Shared} (I:Inv X pins σ H s) {r:List Addr} {fr:Fr} {h:Hh} {d:D} {h':Hh} (sr:SR X.K m H r fr σ) (hr:HR X.K H r h)
  (e:Ev.ev (Ev.run G.F G.w n) (.comp elt t it cond) fr h=.ok d h') (post:Value->Addr->Result->Shared->Prop)
  (hpost:∀Dd C s' H' r',Inv X pins σ H' s'->(∃mm,s'.heap.Ns C mm)->iI X pins H' C->RV X.K H' r' d (.ref Dd)->HR X.K H' r' h'->Fm X.K r r' H H'->post (.ref Dd) C (.ok .next) s') {E:Value->Shared->Prop} (hE:X.xe=λ_ _=>False) :
  wpAny (model X.prog X.w) X.A (eval xi X.env) (λx s₁=>wpAny (model X.prog X.w) X.A (pyIter x) (λitv s₂=>wpAny (model X.prog X.w) X.A (newList []) (λacc s₃=>
   wpAny (model X.prog X.w) X.A (newFunctionEnv scope X.env.globals cl [] X.env.qual none .none (some X.env)) (λcenv s₄=>
    codeAny (model X.prog X.w) X.A (.compStart (.ListComp xe [⟨tg,xi,ifs,0⟩] scope pos) 0 itv acc { cenv with scope:=relabel scope X.env }) (post acc cenv.locals) s₄) E s₃) E s₂) E s₁) E s:=by
 rw[rT]at e;obtain⟨src,h1,e1,e⟩:=Ev.ai e;split at e
 .rename_i hu;obtain⟨ds,h2,e2,e⟩:=Ev.ai e;have sY:∀{α:Type} {tt:Sem α} {Q:α->Shared->Prop} {s:Shared},wpAny (model X.prog X.w) X.A tt Q X.xe s->wpAny (model X.prog X.w) X.A tt Q E s:=λ{α tt Q s} hw=>aa1 hw (λ_ _ q=>q) λ_ _ q=>by rw[hE]at q;exact q.elim
  refine bF (sY (hi X g pins s σ H (λJ H2=>∃r2,HR X.K H2 r2 h1/\Fm X.K r r2 H H2/\rQ X.K r2 H2 src J) I ⟨r,fr,h,src,h1,sr,hr,e1,λJ H2 r2 hr2 f2 hJ=>⟨r2,hr2,f2,hJ⟩⟩)) λv s1 q1=>?_;refine bF (sY q1) λitv s2 q2=>?_;obtain⟨ita,fp,tn,J,H2,rfl,I2,Tn,st2,f2,r2,hr2,Gz,hJ⟩:=q2;refine aar ?_;generalize GA:s2.heap.objs.size=Dd
  have nj:H2 Dd=none:=by rw[<-GA];exact I2.fresh
  have I3:Inv X pins σ (upd H2 Dd (.lst [])) { s2 with heap:=s2.heap.push { cls:=.type "list",data:=.seq ([]:List Value).toArray }}:=by
   have:=I2.DK (ys:=[]) (its:=[]) (t':=s2.toks) .nil (aaW _);rw[GA]at this;exact this
  have LH:∀b∈fp,b<s2.heap.objs.size:=λb hb=>by
   obtain⟨o,e,_⟩:=Tn.obj 0 _ st2 b hb;exact Xl e
  generalize LI:({ s2 with heap:=s2.heap.push { cls:=.type "list",data:=.seq ([]:List Value).toArray }}:Shared)=s3 at I3
  have Wi:s3.heap.objs.size=s2.heap.objs.size+1:=by rw[<-LI];exact Heap.size_push ..
  have k3:∀b o,s2.heap.get? b=some o->s3.heap.get? b=some o:=λb o e=>by rw[<-LI];exact FJ _ e
  have LJ:∀b∈fp,b<s3.heap.objs.size:=λb hb=>P6 (LH b hb) (by rw[Wi];exact Nat.le_succ _);have rV:∀b∈fp,iI X pins (upd H2 Dd (.lst [])) b:=λb hb=>⟨by rw[bO (λz=>absurd (LH b hb) (by rw[z,GA];exact aaB _))];exact(f2 b hb).1,(f2 b hb).2⟩
  refine wpAny_newFunctionEnv (hs.BL) (λy hy=>by simp at hy) (λLK Wj Wk=>?_) hs.kind;have k4:∀b o,s3.heap.get? b=some o->LK.get? b=some o:=λb o e=>Wk.extBut b o (aaq (Xl e)) (FJ _ e);have gC:Good G n (fN sc scope) N' false (qp X N' scope cl s3.heap.objs.size s3 (upd H2 Dd (.lst [])) fp):=g.comp;have I4:Inv (qp X N' scope cl s3.heap.objs.size s3 (upd H2 Dd (.lst [])) fp) [] (sig scope N N' m' X.K (upd H2 Dd (.lst [])) r2 fr σ) (upd H2 Dd (.lst [])) { s3 with heap:=LK,toks:=s3.toks+0 }:=
   DW g I3 hs iM kQ rV LJ Wj k4
  have yC:SR X.K m' (upd H2 Dd (.lst [])) r2 fr (sig scope N N' m' X.K (upd H2 Dd (.lst [])) r2 fr σ):=LC (((sr.mono Gz).mono (Fm.tup nj))) hn hu;have mW:HR X.K (upd H2 Dd (.lst [])) r2 h1:=hr2.tup nj;have Ub:Dd∉r2:=λhm=>by
   obtain⟨k,hk⟩:=acU hm;have hlt:k<h1.length:=by rw[<-hr2.len];exact(List.getElem?_eq_some_iff.mp hk).1
   obtain⟨a,e3,e4⟩:=hr2.ob k _ (Uy hlt);rw[hk]at e3;cases e3;cases eo:h1[k]with
   |lst dd=>rw[eo]at e4;obtain⟨us,e5,_⟩:=e4;rw[nj]at e5;cases e5
   |bU dd=>
    rw[eo]at e4;obtain⟨us,e5,_⟩:=e4;rcases e5 with ⟨ob,e5⟩|⟨ob,_,_,e5,_⟩
    .rw[nj]at e5;cases e5
    .have:=Xl (I2.gK _ _ e5);rw[GA]at this;exact absurd this (aaB _)
  have XJ:H Dd=none:=by
   cases z:H Dd with
   |none=>rfl
   |some o=>
    have hnr:Dd∉r:=λhm=>by
     obtain⟨k,hk⟩:=acU hm;exact Ub (aam (Gz.pre _ _ hk))
    have:=Gz.keep _ _ z hnr;rw[nj]at this;cases this
  have mh:∀{Hc:Hp},(∀b∈fp,Hc b=none)->∀b∈fp,iI (qp X N' scope cl s3.heap.objs.size s3 (upd H2 Dd (.lst [])) fp) [] Hc b:=λ{Hc} hz b hb=>by
   refine⟨hz b hb,aaq (LJ b hb),(I4.ok).rJ b hb,.inl hb,λx c e=>((I4.ok).Gb b hb).2 x c e,λp hp=>?_⟩;simp[qp]at hp
  have hsz:ds.length<=sizeLine:=by
   unfold Ev.alloc at e;split at e
   .rename_i z;rw[<-jX];exact z
   .cases e
  have fin:codeAny (model X.prog X.w) X.A (.compLoop (.ListComp xe [⟨tg,xi,ifs,0⟩] scope pos) 0 (.ref ita) (.ref Dd) (compEnvC scope cl s3.heap.objs.size X.env)) (post (.ref Dd) s3.heap.objs.size) { s3 with heap:=LK,toks:=s3.toks+0 }:=by
   refine BN gC hg hc he Tn mh hu hJ nj hsz (λs6 oY Hc rc vs I6 tR vI oZ vH BO=>?_) ⟨0,_,_,r2,h1,[],[],ds,I4,Tn.keep _ _ _ st2 λb hb o eo=>k4 b o (k3 b o eo),λb hb=>(rV b hb).1,rfl,aaW _,yC,mW,Fm.tup nj,g8,Ub,.nil,by rw[abo];exact e2,rfl⟩;unfold Ev.alloc at e;split at e
   .cases e;obtain⟨XM,Wl,_⟩:=I6.loc;refine hpost Dd _ s6 Hc (rc++[Dd]) ?_ ⟨XM,Wl⟩ ?_ ⟨Dd,rfl,?_⟩ (tR.known oZ vH BO) ((Gz.trans vI).known ?_)
    .exact I3.P7 (ch:=fp) (I6.os) I6.base I6.hok I6.bare λb hb=>⟨(rV b hb).2.2.2.1,(rV b hb).2.1,(rV b hb).2.2.2.2.1,(rV b hb).2.2.2.2.2⟩
    .exact I3.Dy (WE _) I6.free
    .rw[<-tR.len];simp
    .exact XJ
   .cases e
  subst LI;exact codeAny_compStart_list fin (Tn.self _ 0 _ _ _ (Tn.keep _ _ _ st2 λb hb o eo=>k4 b o (k3 b o eo)) fin)
 .cases e
end
section
variable{G:Tb}{n:Nat}{sc scope:Scope}{N N':List Str}{df:Bool}{m m':List Nat}{elt:E}{t:T}{it:Ev.It}{cond:Eo}{xe xi tg:Expr}{ifs:List Expr}{pos:Pos}
theorem Good.cells{X:Cx}{pins:List (Addr×Obj)}{σ:L2.St}{H:Hp}{s:Shared}(g:Good G n sc N df X)(I:Inv X pins σ H s)(hs:kP sc scope) :
  ∃cl,closureFor scope X.env=pure cl/\(∀x c,cl.lookup x=some c->X.env.cells.lookup x=some c)/\∀x,(x,NameKind.free)∈scope.names->∃c,cl.lookup x=some c:=
 Ie λx hx=>I.ok.has x (by unfold Env.kindOf;rw[g.sc];exact(hs.free x hx).1)
def BR{X:Cx}{pins:List (Addr×Obj)}{σ:L2.St}{H:Hp}{s:Shared}(I:Inv X pins σ H s){C:Addr}(fp:iI X pins H C){h':Heap}(hs:Heap.SameBut C s.heap h'):Inv X pins σ H { s with heap:=h' }:=
 I.turned (t':=s.toks) (λb o hb e=>hs.extBut b o hb e) fp.1 fp.2.1 fp.2.2.2.1 fp.2.2.2.2.1 fp.2.2.2.2.2
def yH(hi:JI G n sc N df m it tg xi)(hg:JG G n (fN sc scope) N' false m' t tg)(hc:JC G n (fN sc scope) N' false m' cond ifs)(he:JE G n (fN sc scope) N' false m' elt xe)
  (hn:namesOk sc N m scope t N' m') (hs:kP sc scope) (hf:∀(env:Env) x,foldedSetIterable xi env x=pure x:=by intro _ _;rfl):JE G n sc N df m (.comp elt t it cond) (.ListComp xe [⟨tg,xi,ifs,0⟩] scope pos):=λX g pins s σ H Q I q=>by
 obtain⟨r,fr,h,d,h',sr,hr,e,q⟩:=q;obtain⟨cl,hcl,iM,kQ⟩:=g.cells I hs;rw[eval_ListComp];refine acF (use:=none) (Q:=EP X pins σ Q) rfl (hf _) hcl hs.kind hs.loc ?_;refine tW g hi hg hc he hn hs iM kQ I sr hr e (λacc C=>compPost (model X.prog X.w) X.A X.xe none (EP X pins σ Q) acc C) (λDd C s' H' r' I' hC fp rv hr' GB=>?_) g.xe;obtain⟨mm,hC⟩:=hC;exact⟨mm,hC,λh'' BU=>⟨.ref Dd,H',BR I' fp BU,rfl,q _ H' r' rv hr' GB⟩⟩
def Ih(j i:Nat){x:Str}{pos' cpos:Pos}(hm:m.Nodup)(hN:N.Nodup)(hi:JI G n sc N df m it tg xi)(hg:JG G n (fN sc scope) N' false m' t tg)(hc:JC G n (fN sc scope) N' false m' cond ifs)(he:JE G n (fN sc scope) N' false m' elt xe)
  (hn:namesOk sc N m scope t N' m') (hs:kP sc scope) (hj:m[j]?=some i:=by rfl) (tP:N[j]?=some x:=by rfl)
  (hl:sc.names.lookup x=some .local\/(df=true/\sc.names.lookup x=some .cell):=by first|exact Or.inl rfl|exact Or.inr ⟨rfl,rfl⟩) (hf:∀(env:Env) x,foldedSetIterable xi env x=pure x:=by intro _ _;rfl) :
  JS G n sc N df m (.set i (.comp elt t it cond)) (.Assign [.Name x pos'] (.ListComp xe [⟨tg,xi,ifs,0⟩] scope cpos) pos):=λX g=>by
 obtain⟨h1,h2⟩:=g.loc hl;have hsw:swapsWith (.ListComp xe [⟨tg,xi,ifs,0⟩] scope cpos) (some (.Name x pos')) pos.line X.env=pure (X.env.blockKind==.function&&X.env.kindOf x==some .local&&pos'.line==(Expr.ListComp xe [⟨tg,xi,ifs,0⟩] scope cpos).pos.line&&!(scope.names.any λ(n,k)=>n==x&&(k==.local ||k==.cell))):=rfl;generalize hb:(X.env.blockKind==.function&&X.env.kindOf x==some .local&&pos'.line==(Expr.ListComp xe [⟨tg,xi,ifs,0⟩] scope cpos).pos.line&&!(scope.names.any λ(n,k)=>n==x&&(k==.local ||k==.cell)))=b at hsw
 cases b with
 |false=>
  refine PS.of (Bb (i:=j) (by rw[g.nm];exact hN) (by rw[g.nm];exact tP) h1 (yH hi hg hc he hn hs hf X g) hsw h2) λQ s H q=>?_;obtain⟨r,fr,h,fl,aj,h',sr,hr,e,q⟩:=q;simp only[Ev.ex]at e;obtain⟨d,h1,e1,e⟩:=Ev.ai e;cases e;exact⟨r,fr,h,d,_,sr,hr,e1,λv H1 r1 v1 hr1 f1=>q _ H1 r1 ((sr.mono f1).set hm hj v1) hr1 f1⟩
 |true=>
  have Zb:X.env.kindOf x=some .local:=by
   simp only[xg,acR]at hb;exact hb.1.1.2
  intro pins s σ H Q I q;obtain⟨r,fr,h,fl,aj,h',sr,hr,e,q⟩:=q;simp only[Ev.ex]at e;obtain⟨d,h3,e1,e⟩:=Ev.ai e;cases e;obtain⟨cl,hcl,iM,kQ⟩:=g.cells I hs;rw[exec_Assign_Name_used _ _ _ _ hsw];refine gF (wpAny_standAt (gF ?_));show wpAny _ X.A (do let _ <-comprehension (.ListComp xe [⟨tg,xi,ifs,0⟩] scope cpos) scope X.env _ (newList []) false (eval xi X.env) (some (assign (.Name x pos') X.env))) _ _ s;refine gF (aa1 (acF (use:=some (assign (.Name x pos') X.env)) (Q:=λ_ s'=>SP X pins Q .next s') rfl (hf _) hcl hs.kind hs.loc ?_) (λ_ s' hq=>uq (uq hq)) λ_ _ e=>e);refine tW g hi hg hc he hn hs iM kQ I sr hr e1 (λacc C=>compPost (model X.prog X.w) X.A X.xe (some (assign (.Name x pos') X.env)) (λ_ s'=>SP X pins Q .next s') acc C) (λDd C s' H' r' I' hC fp rv hr' GB=>?_) g.xe;obtain⟨mm,hC⟩:=hC;show wpAny _ X.A (assign (.Name x pos') X.env (.ref Dd)) _ _ s';refine wpAny_assign_Name (sX (v:=.ref Dd) I' (by rw[g.nm];exact hN) (i:=j) (by rw[g.nm];exact tP) h1 rfl (λs'' XN BU=>?_) h2);obtain⟨a,BU,ha⟩:=BU;have XO:C≠a:=by
   rcases ha with z|z
   .rw[z];exact fp.2.1
   .exact λw=>fp.2.2.2.2.1 x a z w.symm
  refine⟨mm,hC.sameBut BU XO,λh'' Wm=>?_⟩;exact⟨_,H',BR XN ⟨fp.1,fp.2⟩ Wm,q _ H' r' ((sr.mono GB).set hm hj rv) hr' GB⟩
end
end Sm
namespace Sm
open PySem PySem.Spec PyProof.Rows L2 PySem.SeqAt
open Ev (D O Hh Fr R aP E Es Eo T S Ss Fl Src bJ bx TY BI ME)
structure vJ(A:Around)(s:Shared)(u w:Value)(k:Bool):Prop where
 eq:EqAt A s u w k
 rc:RcAt A s u w k
 ne:RcNeAt A s u w (!k)
theorem rW{f:D->D->Option Bool}:∀{x y:List D},x.length≠y.length->∀{k},Ev.cO f x y=some k->k=false
 |[],[],h,_,_=>absurd rfl h
 |[],_ :: _,_,_,e=>by cases e;rfl
 |_ :: _,[],_,_,e=>by cases e;rfl
 |a :: x,b :: y,h,k,e=>by
  simp only[Ev.cO,abe,NN]at e;obtain⟨p,_,q,e2,e3⟩:=e;have:=rW (x:=x) (y:=y) (by simpa using h) e2;subst this;cases e3;simp
theorem yI{f:D->D->Option Bool}:∀{x y:List D}{k},Ev.cO f x y=some k->x.length=y.length->∃e:Nat->Bool,(∀(j:Nat) a b,x[j]?=some a->y[j]?=some b->f a b=some (e j))/\(List.range x.length).all e=k
 |[],[],_,h,_=>⟨λ_=>true,(λj a b h1=>by simp at h1),by cases h;simp⟩
 |[],_ :: _,_,_,h=>by simp at h
 |_ :: _,[],_,_,h=>by simp at h
 |a :: x,b :: y,k,h,hl=>by
  simp only[Ev.cO,abe,NN]at h;obtain⟨p,e1,q,e2,e3⟩:=h;cases e3;obtain⟨e,h1,h2⟩:=yI e2 (by simpa using hl);refine⟨λj=>match j with|0=>p|j+1=>e j,λj a' b' g1 g2=>?_,?_⟩
  .cases j with
   |zero=>simp at g1 g2;subst g1 g2;exact e1
   |succ j=>exact h1 j a' b' (by simpa using g1) (by simpa using g2)
  .rw[aaf,abO,List.all_cons,List.all_map,<-h2];rfl
theorem yJ{f:D->D->Option Bool}:∀{x y:List D}{k},Ev.cO f x y=some k->∃e:Nat->Bool,∀(j:Nat) a b,x[j]?=some a->y[j]?=some b->f a b=some (e j)
 |[],_,_,_=>⟨λ_=>true,λj a b h1=>by simp at h1⟩
 |_ :: _,[],_,_=>⟨λ_=>true,λj a b _ h1=>by simp at h1⟩
 |a :: x,b :: y,k,h=>by
  simp only[Ev.cO,abe,NN]at h;obtain⟨p,e1,q,e2,e3⟩:=h;obtain⟨e,h1⟩:=yJ e2;refine⟨λj=>match j with|0=>p|j+1=>e j,λj a' b' g1 g2=>?_⟩;cases j with
  |zero=>simp at g1 g2;subst g1 g2;exact e1
  |succ j=>exact h1 j a' b' (by simpa using g1) (by simpa using g2)
section
variable{X:Cx}{pins:List (Addr×Obj)}{σ:L2.St}{H:Hp}{s:Shared}{r:List Addr}{h:Hh}
def nY(I:Inv X pins σ H s){a b:Addr}{vs ws:List V}(h1:zS X.K H a vs)(h2:H b=some (.lst ws)):a≠b:=by
 rintro rfl;rcases h1 with ⟨o,h1⟩|⟨o,_,_,h1,_⟩
 .rw[h2]at h1;cases h1
 .have:=(I.bs a o (I.ok.mod.Ga a o h1)).2;rw[h2]at this;cases this
def tY{x y:List D}{vs ws:List V}{us zs:List Value}{f:D->D->Option Bool}{A:Around}{k:Bool}(v1:aG X.K H r x vs)(v2:aG X.K H r y ws)(p1:Vals vs us)(p2:Vals ws zs)
  (ih:∀a b va vb u w k,RV X.K H r a va->RV X.K H r b vb->RelV va u->RelV vb w->f a b=some k->vJ A s u w k) (hl:x.length=y.length) (e:Ev.cO f x y=some k) :
  ∃e':Nat->Bool,(∀j (h1:j<us.toArray.size) (h2:j<zs.toArray.size),EqAt A s us.toArray[j] zs.toArray[j] (e' j))/\(List.range us.toArray.size).all e'=k/\us.length=zs.length:=by
 obtain⟨e',h1,h2⟩:=yI e hl;have l1:=v1.length;have l2:=v2.length;have l3:=p1.length;have l4:=p2.length;refine⟨e',λj g1 g2=>?_,?_,by omega⟩
 .have XQ:j<us.length:=by simpa using g1
  have XR:j<zs.length:=by simpa using g2
  have ha:x[j]?=some x[j]:=Uy (by omega);have hb:y[j]?=some y[j]:=Uy (by omega);obtain⟨va,a1,a2⟩:=v1.get ha;obtain⟨vb,b1,b2⟩:=v2.get hb;obtain⟨u,a3,a4⟩:=p1.get a1;obtain⟨w,b3,b4⟩:=p2.get b1;have eu:us.toArray[j]=u:=by
   have:=(List.getElem?_eq_some_iff.mp a3).2;simpa using this
  have ew:zs.toArray[j]=w:=by
   have:=(List.getElem?_eq_some_iff.mp b3).2;simpa using this
  rw[eu,ew];exact(ih _ _ _ _ _ _ _ a2 b2 a4 b4 (h1 j _ _ ha hb)).eq
 .rw[<-h2];have:us.toArray.size=x.length:=by simp;omega
  rw[this]
noncomputable def cK(K:PySem.W.Frag)(H:Hp)(r:List Addr):D->V->Prop
 |.bz,v=>v=.bz
 |.bl b,v=>v=.bl b
 |.int i,v=>v=.int i
 |.str l,v=>v=.str (aB l)
 |.ref n,v=>∃a,v=.ref a/\r[n]?=some a
 |.tup ds,v=>∃a vs,v=.ref a/\ee K H a vs/\aG K H r ds vs
def RV.shape{d:D}{v:V}(h:RV X.K H r d v):cK X.K H r d v:=by
 cases d<;>simp only[RV]at h<;>simp only[cK]<;>first|exact h|exact h.1
def Ii{a b:List Nat}:(aB a==aB b)=(a==b):=by
 by_cases e:a=b
 .subst e;simp
 .have e1:(aB a==aB b)=false:=beq_eq_false_iff_ne.mpr λz=>e (lK z);have e2:(a==b)=false:=beq_eq_false_iff_ne.mpr e;rw[e1,e2]
def pM{n:Nat}{A:Around}{x y:List D}{a b:Addr}{vs ws:List V}{k:Bool}(I:Inv X pins σ H s)(hu:A.units<cLine)(q1:fS X.K H a vs)(q2:fS X.K H b ws)(v1:aG X.K H r x vs)(v2:aG X.K H r y ws)(hab:a≠b)
  (ih:∀a b va vb u w k,RV X.K H r a va->RV X.K H r b vb->RelV va u->RelV vb w->Ev.gS h n a b=some k->vJ A.in1 s u w k) (e:Ev.cO (Ev.gS h n) x y=some k):vJ A s (.ref a) (.ref b) k:=by
 obtain⟨us,p1,o4,_⟩:=I.list q1;obtain⟨zs,p2,o5,_⟩:=I.list q2;by_cases hl:x.length=y.length
 .obtain⟨e',h1,h2,h3⟩:=tY v1 v2 p1 p2 ih hl e;have hs:us.toArray.size=zs.toArray.size:=by simpa using h3
  have rc:=RcAt.lists o4.isList o5.isList hs hu h1;have ne:=RcNeAt.lists o4.isList o5.isList hs hu h1;rw[h2]at rc ne;exact⟨.of_refs hab rc,rc,ne⟩
 .have hk:=rW hl e;subst hk;have hs:(us.toArray.size != zs.toArray.size)=true:=by
   have l1:=v1.length;have l2:=v2.length;have l3:=p1.length;have l4:=p2.length;simp only[G3,bne_iff_ne,ne_eq];omega
  exact⟨.of_refs hab (.lists_lengths o4.isList o5.isList hs hu),.lists_lengths o4.isList o5.isList hs hu,.lists_lengths o4.isList o5.isList hs hu⟩
def vK(I:Inv X pins σ H s)(hr:HR X.K H r h){n:Nat}{a:Addr}{ds:List D}(e:Ev.bA h n=some ds)(ha:r[n]?=some a):∃us:List Value,PlainL s.heap a us.toArray:=by
 obtain⟨a',vs,e1,e2,e3⟩:=hr.read e;rw[ha]at e1;cases e1;obtain⟨us,_,pl,_⟩:=I.list e2;exact⟨us,pl⟩
def BV(I:Inv X pins σ H s)(hr:HR X.K H r h):∀(n:Nat) (a b:D) (v:V) (k:Bool),RV X.K H r a v->RV X.K H r b v->Ev.gS h n a b=some k->k=true:=by
 intro n;induction n with
 |zero=>intro a b v k _ _ e;cases e
 |succ n ih=>
  have items:∀(x y:List D) (vs:List V) (k:Bool),aG X.K H r x vs->aG X.K H r y vs->Ev.cO (Ev.gS h n) x y=some k->k=true:=by
   intro x;induction x with
   |nil=>
    intro y vs k h1 h2 e;simp only[aG]at h1;subst h1;cases y with
    |nil=>cases e;rfl
    |cons _ _=>simp only[aG]at h2;obtain⟨_,_,h2,_⟩:=h2;cases h2
   |cons d x XS=>
    intro y vs k h1 h2 e;simp only[aG]at h1;obtain⟨v,w,rfl,h3,h4⟩:=h1;cases y with
    |nil=>simp only[aG]at h2;cases h2
    |cons d' y=>
     simp only[aG]at h2;obtain⟨v',w',e2,h5,h6⟩:=h2;cases e2;simp only[Ev.cO,abe,NN]at e;obtain⟨p,e1,q,e2,e3⟩:=e;cases e3;rw[ih d d' v p h3 h5 e1,XS y w q h4 h6 e2];rfl
  have lt:∀(a:Addr) (vs:List V) (i:Nat) (ds:List D),ee X.K H a vs->r[i]?=some a->Ev.bA h i=some ds->False:=λa vs i ds h1 h2 h3=>by
   obtain⟨us,pl⟩:=vK I hr h3 h2;obtain⟨zs,_,pt,_⟩:=I.tuple h1;exact ne_of_list_tuple pl.isList pt rfl
  intro a b v k h1 h2 e;have s1:=h1.shape;have s2:=h2.shape;clear h1 h2;cases a with
  |bz=>simp only[cK]at s1;cases b with
   |bz=>cases e;rfl
   |ref m=>obtain⟨p,z,_⟩:=s2;rw[s1]at z;cases z
   |tup y=>obtain⟨p,_,z,_⟩:=s2;rw[s1]at z;cases z
   |_=>simp only[cK]at s2;rw[s1]at s2;cases s2
  |bl x=>simp only[cK]at s1;cases b with
   |bl y=>simp only[cK]at s2;rw[s1]at s2;cases s2;cases e;simp
   |ref m=>obtain⟨p,z,_⟩:=s2;rw[s1]at z;cases z
   |tup y=>obtain⟨p,_,z,_⟩:=s2;rw[s1]at z;cases z
   |_=>simp only[cK]at s2;rw[s1]at s2;cases s2
  |int x=>simp only[cK]at s1;cases b with
   |int y=>simp only[cK]at s2;rw[s1]at s2;cases s2;cases e;simp
   |ref m=>obtain⟨p,z,_⟩:=s2;rw[s1]at z;cases z
   |tup y=>obtain⟨p,_,z,_⟩:=s2;rw[s1]at z;cases z
   |_=>simp only[cK]at s2;rw[s1]at s2;cases s2
  |str x=>simp only[cK]at s1;cases b with
   |str y=>
    simp only[cK]at s2;rw[s1]at s2;have:x=y:=lK (by injection s2);subst this;cases e;simp
   |ref m=>obtain⟨p,z,_⟩:=s2;rw[s1]at z;cases z
   |tup y=>obtain⟨p,_,z,_⟩:=s2;rw[s1]at z;cases z
   |_=>simp only[cK]at s2;rw[s1]at s2;cases s2
  |tup x=>
   obtain⟨p,vs,rfl,z,w⟩:=s1;cases b with
   |tup y=>
    obtain⟨p',vs',z',z2,w2⟩:=s2;cases z';rw[I.m5 z2 z]at w2;exact items x y vs k w w2 e
   |ref m=>
    obtain⟨p',z',z2⟩:=s2;cases z';obtain⟨ds,e1,_⟩:=Option.map_eq_some_iff.mp e;exact(lt _ _ _ _ z z2 e1).elim
   |_=>cases s2
  |ref i=>
   obtain⟨p,rfl,z⟩:=s1;cases b with
   |ref m=>
    obtain⟨p',z',z2⟩:=s2;cases z';replace e:Ev.jW h (Ev.gS h n) i m=some k:=e;unfold Ev.jW at e;split at e
    .simp only[gV]at e;obtain⟨_,_,e⟩:=e;exact e.symm
    .rename_i hne;split at e
     .rename_i x y g1 g2;exact absurd (hr.inj _ _ _ _ _ z z2 g1 g2) hne
     .rename_i x y g1 g2;obtain⟨p1,q1,GC,q2,_⟩:=hr.ob _ _ g1;obtain⟨p2,q3,GD,q4,_⟩:=hr.ob _ _ g2;rw[z]at q1;cases q1;rw[z2]at q3;cases q3;exact absurd rfl (nY I q2 q4)
     .rename_i x y g1 g2;obtain⟨p1,q1,GC,q2,_⟩:=hr.ob _ _ g1;obtain⟨p2,q3,GD,q4,_⟩:=hr.ob _ _ g2;rw[z]at q1;cases q1;rw[z2]at q3;cases q3;exact absurd rfl (nY I q4 q2)
     .cases e
   |tup y=>
    obtain⟨p',vs',z',z2,w2⟩:=s2;cases z';obtain⟨ds,e1,_⟩:=Option.map_eq_some_iff.mp e;exact(lt _ _ _ _ z2 z e1).elim
   |_=>cases s2
def Ij{n:Nat}{A:Around}{x y:List D}{a b:Addr}{vs ws:List V}{k:Bool}(I:Inv X pins σ H s)(hr:HR X.K H r h)(hu:A.units<cLine)(q1:ee X.K H a vs)(q2:ee X.K H b ws)(v1:aG X.K H r x vs)(v2:aG X.K H r y ws)
  (ih:∀a b va vb u w k,RV X.K H r a va->RV X.K H r b vb->RelV va u->RelV vb w->Ev.gS h n a b=some k->vJ A.in1 s u w k) (e:Ev.cO (Ev.gS h n) x y=some k):vJ A s (.ref a) (.ref b) k:=by
 obtain⟨us,p1,o4,_⟩:=I.tuple q1;obtain⟨zs,p2,o5,_⟩:=I.tuple q2;have l1:=v1.length;have l2:=v2.length;have l3:=p1.length;have l4:=p2.length;have both:RcAt A s (.ref a) (.ref b) k/\RcNeAt A s (.ref a) (.ref b) (!k):=by
  by_cases hl:x.length=y.length
  .obtain⟨e',h1,h2,h3⟩:=tY v1 v2 p1 p2 ih hl e;have rc:=RcAt.tuples o4 o5 hu h1;have ne:=RcNeAt.tuples o4 o5 hu h1;have hs:us.toArray.size=zs.toArray.size:=by simpa using h3
   have hb:((List.range (min us.toArray.size zs.toArray.size)).all e'&&us.toArray.size==zs.toArray.size)=k:=by
    rw[<-hs,Nat.min_self,h2];simp
   rw[hb]at rc ne;exact⟨rc,ne⟩
  .have hk:=rW hl e;subst hk;have hcl:∃e':Nat->Bool,∀j (h1:j<us.toArray.size) (h2:j<zs.toArray.size),EqAt A.in1 s us.toArray[j] zs.toArray[j] (e' j):=by
    obtain⟨e',h1⟩:=yJ e;refine⟨e',λj g1 g2=>?_⟩;have XQ:j<us.length:=by simpa using g1
    have XR:j<zs.length:=by simpa using g2
    have ha:x[j]?=some x[j]:=Uy (by omega);have hb:y[j]?=some y[j]:=Uy (by omega);obtain⟨va,a1,a2⟩:=v1.get ha;obtain⟨vb,b1,b2⟩:=v2.get hb;obtain⟨u,a3,a4⟩:=p1.get a1;obtain⟨w,b3,b4⟩:=p2.get b1;have eu:us.toArray[j]=u:=by
     have:=(List.getElem?_eq_some_iff.mp a3).2;simpa using this
    have ew:zs.toArray[j]=w:=by
     have:=(List.getElem?_eq_some_iff.mp b3).2;simpa using this
    rw[eu,ew];exact(ih _ _ _ _ _ _ _ a2 b2 a4 b4 (h1 j _ _ ha hb)).eq
   obtain⟨e',h1⟩:=hcl;have rc:=RcAt.tuples o4 o5 hu h1;have ne:=RcNeAt.tuples o4 o5 hu h1;have hs:(us.toArray.size==zs.toArray.size)=false:=by
    simp only[G3,beq_eq_false_iff_ne,ne_eq];omega
   rw[hs,Bool.and_false]at rc ne;exact⟨rc,ne⟩
 by_cases hab:a=b
 .subst hab;rw[I.m5 q2 q1]at v2;have hk:k=true:=BV I hr (n+1) (.tup x) (.tup y) (.ref a) k ⟨a,vs,rfl,q1,v1⟩ ⟨a,vs,rfl,q1,v2⟩ e;subst hk;exact⟨.same _,both.1,both.2⟩
 .exact⟨.of_refs hab both.1,both.1,both.2⟩
end
section
variable{X:Cx}{pins:List (Addr×Obj)}{σ:L2.St}{H:Hp}{s:Shared}{r:List Addr}{h:Hh}
def zZ(I:Inv X pins σ H s)(hr:HR X.K H r h):∀(n:Nat) (A:Around) (a b:D) (va vb:V) (u w:Value) (k:Bool),A.units+n<cLine->RV X.K H r a va->RV X.K H r b vb->RelV va u->RelV vb w->Ev.gS h n a b=some k->vJ A s u w k:=by
 intro n;induction n with
 |zero=>intro A a b va vb u w k _ _ _ _ _ e;cases e
 |succ n ih=>
  intro A a b va vb u w k hu h1 h2 r1 r2 e;have cg:A.units<cLine:=by omega
  have ih':∀a b va vb u w k,RV X.K H r a va->RV X.K H r b vb->RelV va u->RelV vb w->Ev.gS h n a b=some k->vJ A.in1 s u w k:=λa b va vb u w k=>ih A.in1 a b va vb u w k (by show A.units+1+n<cLine;omega);have s1:=h1.shape;have s2:=h2.shape;have lst:∀{i:Nat} {v:V} {u:Value} {ds:List D},cK X.K H r (.ref i) v->RelV v u->Ev.bA h i=some ds->∃p us,u=.ref p/\PlainL s.heap p (List.toArray us):=λ{i v u ds} hv ru el=>by
   obtain⟨p,rfl,z⟩:=hv;cases ru;obtain⟨us,pl⟩:=vK I hr el z;exact⟨p,us,rfl,pl⟩
  have tup:∀{ds:List D} {v:V} {u:Value},cK X.K H r (.tup ds) v->RelV v u->∃p us,u=.ref p/\s.heap.IsTuple p (List.toArray us):=λ{ds v u} hv ru=>by
   obtain⟨p,vs,rfl,z,_⟩:=hv;cases ru;obtain⟨us,_,pt,_⟩:=I.tuple z;exact⟨p,us,rfl,pt⟩
  cases a with
  |bz=>
   simp only[cK]at s1;subst s1;cases r1;cases b with
   |bz=>simp only[cK]at s2;subst s2;cases r2;cases e;exact⟨.same _,.none_none,.none_none⟩
   |bl y=>simp only[cK]at s2;subst s2;cases r2;cases e;exact⟨.none_bool _,.none_bool _,.none_bool _⟩
   |int y=>simp only[cK]at s2;subst s2;obtain⟨t,rfl⟩:=r2;cases e;exact⟨.none_int _ _,.none_int _ _,.none_int _ _⟩
   |str y=>simp only[cK]at s2;subst s2;obtain⟨t,rfl⟩:=r2;cases e;exact⟨.none_str _ _,.none_str _ _,.none_str _ _⟩
   |tup y=>obtain⟨p,us,rfl,pt⟩:=tup s2 r2;cases e;exact⟨.none_tuple pt cg,.none_tuple pt cg,.none_tuple pt cg⟩
   |ref m=>
    obtain⟨ds,e1,rfl⟩:=Option.map_eq_some_iff.mp e;obtain⟨p,us,rfl,pl⟩:=lst s2 r2 e1;exact⟨.none_list pl.isList cg,.none_list pl.isList cg,.none_list pl.isList cg⟩
  |bl x=>
   simp only[cK]at s1;subst s1;cases r1;cases b with
   |bz=>simp only[cK]at s2;subst s2;cases r2;cases e;exact⟨.bool_none _,.bool_none _,.bool_none _⟩
   |bl y=>simp only[cK]at s2;subst s2;cases r2;cases e;exact⟨.bool_bool _ _,.bool_bool _ _,.bool_bool _ _⟩
   |int y=>simp only[cK]at s2;subst s2;obtain⟨t,rfl⟩:=r2;cases e;exact⟨.bool_int _ _ _,.bool_int _ _ _,.bool_int _ _ _⟩
   |str y=>simp only[cK]at s2;subst s2;obtain⟨t,rfl⟩:=r2;cases e;exact⟨.bool_str _ _ _,.bool_str _ _ _,.bool_str _ _ _⟩
   |tup y=>obtain⟨p,us,rfl,pt⟩:=tup s2 r2;cases e;exact⟨.bool_tuple _ pt cg,.bool_tuple _ pt cg,.bool_tuple _ pt cg⟩
   |ref m=>
    obtain⟨ds,e1,rfl⟩:=Option.map_eq_some_iff.mp e;obtain⟨p,us,rfl,pl⟩:=lst s2 r2 e1;exact⟨.bool_list _ pl.isList cg,.bool_list _ pl.isList cg,.bool_list _ pl.isList cg⟩
  |int x=>
   simp only[cK]at s1;subst s1;obtain⟨t0,rfl⟩:=r1;cases b with
   |bz=>simp only[cK]at s2;subst s2;cases r2;cases e;exact⟨.int_none _ _,.int_none _ _,.int_none _ _⟩
   |bl y=>simp only[cK]at s2;subst s2;cases r2;cases e;exact⟨.int_bool _ _ _,.int_bool _ _ _,.int_bool _ _ _⟩
   |int y=>simp only[cK]at s2;subst s2;obtain⟨t,rfl⟩:=r2;cases e;exact⟨.int_int _ _ _ _,.int_int _ _ _ _,.int_int _ _ _ _⟩
   |str y=>simp only[cK]at s2;subst s2;obtain⟨t,rfl⟩:=r2;cases e;exact⟨.int_str _ _ _ _,.int_str _ _ _ _,.int_str _ _ _ _⟩
   |tup y=>obtain⟨p,us,rfl,pt⟩:=tup s2 r2;cases e;exact⟨.int_tuple _ _ pt cg,.int_tuple _ _ pt cg,.int_tuple _ _ pt cg⟩
   |ref m=>
    obtain⟨ds,e1,rfl⟩:=Option.map_eq_some_iff.mp e;obtain⟨p,us,rfl,pl⟩:=lst s2 r2 e1;exact⟨.int_list _ _ pl.isList cg,.int_list _ _ pl.isList cg,.int_list _ _ pl.isList cg⟩
  |str x=>
   simp only[cK]at s1;subst s1;obtain⟨t0,rfl⟩:=r1;cases b with
   |bz=>simp only[cK]at s2;subst s2;cases r2;cases e;exact⟨.str_none _ _,.str_none _ _,.str_none _ _⟩
   |bl y=>simp only[cK]at s2;subst s2;cases r2;cases e;exact⟨.str_bool _ _ _,.str_bool _ _ _,.str_bool _ _ _⟩
   |int y=>simp only[cK]at s2;subst s2;obtain⟨t,rfl⟩:=r2;cases e;exact⟨.str_int _ _ _ _,.str_int _ _ _ _,.str_int _ _ _ _⟩
   |str y=>
    simp only[cK]at s2;subst s2;obtain⟨t,rfl⟩:=r2;cases e;rw[<-Ii];exact⟨.str_str _ _ _ _,.str_str _ _ _ _,.str_str _ _ _ _⟩
   |tup y=>obtain⟨p,us,rfl,pt⟩:=tup s2 r2;cases e;exact⟨.str_tuple _ _ pt cg,.str_tuple _ _ pt cg,.str_tuple _ _ pt cg⟩
   |ref m=>
    obtain⟨ds,e1,rfl⟩:=Option.map_eq_some_iff.mp e;obtain⟨p,us,rfl,pl⟩:=lst s2 r2 e1;exact⟨.str_list _ _ pl.isList cg,.str_list _ _ pl.isList cg,.str_list _ _ pl.isList cg⟩
  |tup x=>
   cases b with
   |tup y=>
    obtain⟨p,vs,rfl,z,w1⟩:=s1;obtain⟨p',vs',rfl,z',w2⟩:=s2;cases r1;cases r2;exact Ij I hr cg z z' w1 w2 ih' e
   |bz=>obtain⟨p,us,rfl,pt⟩:=tup s1 r1;simp only[cK]at s2;subst s2;cases r2;cases e;exact⟨.tuple_none pt cg,.tuple_none pt cg,.tuple_none pt cg⟩
   |bl y=>obtain⟨p,us,rfl,pt⟩:=tup s1 r1;simp only[cK]at s2;subst s2;cases r2;cases e;exact⟨.tuple_bool _ pt cg,.tuple_bool _ pt cg,.tuple_bool _ pt cg⟩
   |int y=>obtain⟨p,us,rfl,pt⟩:=tup s1 r1;simp only[cK]at s2;subst s2;obtain⟨t,rfl⟩:=r2;cases e;exact⟨.tuple_int _ _ pt cg,.tuple_int _ _ pt cg,.tuple_int _ _ pt cg⟩
   |str y=>obtain⟨p,us,rfl,pt⟩:=tup s1 r1;simp only[cK]at s2;subst s2;obtain⟨t,rfl⟩:=r2;cases e;exact⟨.tuple_str _ _ pt cg,.tuple_str _ _ pt cg,.tuple_str _ _ pt cg⟩
   |ref m=>
    obtain⟨p,us,rfl,pt⟩:=tup s1 r1;obtain⟨ds,e1,rfl⟩:=Option.map_eq_some_iff.mp e;obtain⟨p',us',rfl,pl⟩:=lst s2 r2 e1;exact⟨.tuple_list pt pl.isList cg,.tuple_list pt pl.isList cg,.tuple_list pt pl.isList cg⟩
  |ref i=>
   cases b with
   |ref m=>
    replace e:Ev.jW h (Ev.gS h n) i m=some k:=e;unfold Ev.jW at e;split at e
    .rename_i XT;subst XT;simp only[gV]at e;obtain⟨ds,e1,rfl⟩:=e;obtain⟨p,us,rfl,pl⟩:=lst s1 r1 e1;obtain⟨p0,rfl,z⟩:=s1;obtain⟨p1,rfl,z'⟩:=s2;rw[z]at z';cases z';cases r1;cases r2;have q:(List.range (List.toArray us).size).all (λ_=>true)=true:=by simp
     have rc:=RcAt.lists (A:=A) (e:=λ_=>true) pl.isList pl.isList rfl cg λj _ _=>EqAt.same _;have ne:=RcNeAt.lists (A:=A) (e:=λ_=>true) pl.isList pl.isList rfl cg λj _ _=>EqAt.same _;rw[q]at rc ne;exact⟨.same _,rc,ne⟩
    .rename_i hne;obtain⟨p0,rfl,z⟩:=s1;obtain⟨p1,rfl,z'⟩:=s2;cases r1;cases r2;split at e
     .rename_i x y g1 g2;obtain⟨q0,q1,GC,q2,q3⟩:=hr.ob _ _ g1;obtain⟨q4,q5,GD,q6,q7⟩:=hr.ob _ _ g2;rw[z]at q1;cases q1;rw[z']at q5;cases q5;exact pM I cg (.of q2) (.of q6) q3 q7 (λw=>hne (hr.inj _ _ _ _ _ z (by rw[w];exact z') g1 g2)) ih' e
     .rename_i x y g1 g2;obtain⟨q0,q1,GC,q2,q3⟩:=hr.ob _ _ g1;obtain⟨q4,q5,GD,q6,q7⟩:=hr.ob _ _ g2;rw[z]at q1;cases q1;rw[z']at q5;cases q5;exact pM I cg (GF q2) (.of q6) q3 q7 (nY I q2 q6) ih' e
     .rename_i x y g1 g2;obtain⟨q0,q1,GC,q2,q3⟩:=hr.ob _ _ g1;obtain⟨q4,q5,GD,q6,q7⟩:=hr.ob _ _ g2;rw[z]at q1;cases q1;rw[z']at q5;cases q5;exact pM I cg (.of q2) (GF q6) q3 q7 (nY I q6 q2).symm ih' e
     .cases e
   |bz=>obtain⟨ds,e1,rfl⟩:=Option.map_eq_some_iff.mp e;obtain⟨p,us,rfl,pl⟩:=lst s1 r1 e1;simp only[cK]at s2;subst s2;cases r2;exact⟨.list_none pl.isList cg,.list_none pl.isList cg,.list_none pl.isList cg⟩
   |bl y=>obtain⟨ds,e1,rfl⟩:=Option.map_eq_some_iff.mp e;obtain⟨p,us,rfl,pl⟩:=lst s1 r1 e1;simp only[cK]at s2;subst s2;cases r2;exact⟨.list_bool _ pl.isList cg,.list_bool _ pl.isList cg,.list_bool _ pl.isList cg⟩
   |int y=>obtain⟨ds,e1,rfl⟩:=Option.map_eq_some_iff.mp e;obtain⟨p,us,rfl,pl⟩:=lst s1 r1 e1;simp only[cK]at s2;subst s2;obtain⟨t,rfl⟩:=r2;exact⟨.list_int _ _ pl.isList cg,.list_int _ _ pl.isList cg,.list_int _ _ pl.isList cg⟩
   |str y=>obtain⟨ds,e1,rfl⟩:=Option.map_eq_some_iff.mp e;obtain⟨p,us,rfl,pl⟩:=lst s1 r1 e1;simp only[cK]at s2;subst s2;obtain⟨t,rfl⟩:=r2;exact⟨.list_str _ _ pl.isList cg,.list_str _ _ pl.isList cg,.list_str _ _ pl.isList cg⟩
   |tup y=>
    obtain⟨ds,e1,rfl⟩:=Option.map_eq_some_iff.mp e;obtain⟨p,us,rfl,pl⟩:=lst s1 r1 e1;obtain⟨p',us',rfl,pt⟩:=tup s2 r2;exact⟨.list_tuple pl.isList pt cg,.list_tuple pl.isList pt cg,.list_tuple pl.isList pt cg⟩
where
 GF {K:PySem.W.Frag} {H:Hp} {a:Addr} {vs:List V} (q:zS K H a vs):fS K H a vs:=by
  rcases q with ⟨ob,e2⟩|e2
  .exact .inl (.inr ⟨ob,e2⟩)
  .exact .inr e2
end
theorem Good.units{G:Tb}{n:Nat}{sc:Scope}{N:List Str}{df:Bool}{X:Cx}(g:Good G n sc N df X):X.A.units+1+Ev.deep<cLine:=by
 have:=g.room.un;have:Ev.deep=20:=rfl;omega
section
variable{G:Tb}{n:Nat}{sc:Scope}{N:List Str}{df:Bool}{X:Cx}
def nZ{pins:List (Addr×Obj)}{σ:L2.St}{H:Hp}{s:Shared}{Q:VK}{r:List Addr}{h:Hh}{k:Bool}(I:Inv X pins σ H s)(hr:HR X.K H r h)(q:Res X.K r H h (.bl k) Q):EP X pins σ Q (.bool k) s:=
 ⟨.bl k,H,I,rfl,q.here rfl hr⟩
def GG(g:Good G n sc N df X):cV X (compareOp .Eq) (fT X.K (eK .eq)):=by
 intro pins s σ H x y v u Q I rx ry q;obtain⟨r,h,a,b,d,h',hr,v1,v2,e,q⟩:=q;obtain⟨k,e1,rfl,rfl⟩:=iY e;have:=g.units;exact(zZ I hr Ev.deep X.A a b x y v u k (by omega) v1 v2 rx ry e1).rc _ _ _ _ (nZ I hr q)
def QK(g:Good G n sc N df X):cV X (compareOp .NotEq) (fT X.K (eK .ne)):=by
 intro pins s σ H x y v u Q I rx ry q;obtain⟨r,h,a,b,d,h',hr,v1,v2,e,q⟩:=q;obtain⟨k,e1,rfl,rfl⟩:=iY e;have:=g.units
 delta Ev.cop at e1;dsimp only at e1;simp only[gV]at e1
 obtain⟨k',e2,rfl⟩:=e1;exact(zZ I hr Ev.deep X.A a b x y v u k' (by omega) v1 v2 rx ry e2).ne _ _ _ _ (nZ I hr q)
def vL{op:CmpOp}{o:bx}{p:Int->Int->Bool}(ho:cV X (compareOp op) (tD λi j=>.bl (p i j)))(hc:∀a b h k,Ev.cop o a b h=some k->∃i j,a=.int i/\b=.int j/\k=p i j):cV X (compareOp op) (fT X.K (eK o)):=by
 intro pins s σ H x y v u Q I rx ry q;obtain⟨r,h,a,b,d,h',hr,v1,v2,e,q⟩:=q;obtain⟨k,e1,rfl,rfl⟩:=iY e;obtain⟨i,j,rfl,rfl,rfl⟩:=hc _ _ _ _ e1;exact ho pins s σ H x y v u Q I rx ry ⟨i,j,v1,v2,q.here rfl hr⟩
def QL:cV X (compareOp .Lt) (fT X.K (eK .lt)):=vL Ql λa b h k e=>by
 cases a<;>cases b <;> (delta Ev.cop at e;dsimp only at e)<;>first | (cases e;exact⟨_,_,rfl,rfl,rfl⟩)|cases e
def uP:cV X (compareOp .LtE) (fT X.K (eK .le)):=vL Qm λa b h k e=>by
 cases a<;>cases b <;> (delta Ev.cop at e;dsimp only at e)<;>first | (cases e;exact⟨_,_,rfl,rfl,rfl⟩)|cases e
def GH:cV X (compareOp .Gt) (fT X.K (eK .gt)):=vL Qn λa b h k e=>by
 cases a<;>cases b <;> (delta Ev.cop at e;dsimp only at e)<;>first | (cases e;exact⟨_,_,rfl,rfl,rfl⟩)|cases e
end
theorem yK{h:Hh}{x:D}:∀{ys:List D}{k:Bool},Ev.mem h x ys=some k->∃e:Nat->Bool,(∀(j:Nat) y,ys[j]?=some y->Ev.gS h Ev.deep y x=some (e j))/\(List.range ys.length).any e=k
 |[],_,e=>⟨λ_=>true,(λj y h=>by simp at h),by cases e;simp⟩
 |y :: ys,k,e=>by
  simp only[Ev.mem,abe,NN]at e;obtain⟨p,e1,q,e2,e3⟩:=e;cases e3;obtain⟨e,h1,h2⟩:=yK e2;refine⟨λj=>match j with|0=>p|j+1=>e j,λj y' g=>?_,?_⟩
  .cases j with
   |zero=>simp at g;subst g;exact e1
   |succ j=>exact h1 j y' (by simpa using g)
  .rw[aaf,abO,List.any_cons,List.any_map,<-h2];rfl
section
variable{X:Cx}{pins:List (Addr×Obj)}{σ:L2.St}{H:Hp}{s:Shared}{r:List Addr}{h:Hh}
open Classical in
def yL(I:Inv X pins σ H s)(hr:HR X.K H r h){A:Around}(hu:A.units+1+Ev.deep<cLine){x:D}{vx:V}{ux:Value}(v1:RV X.K H r x vx)(rx:RelV vx ux){ys:List D}{vs:List V}{us:List Value}(v2:aG X.K H r ys vs)(p2:Vals vs us){k:Bool}(e:Ev.mem h x ys=some k) :
  ∃f:Value->Bool,(∀y,y∈us.toArray->EqAt A.in1 s y ux (f y))/\us.toArray.any f=k:=by
 obtain⟨e',h1,h2⟩:=yK e;have l1:=v2.length;have l2:=p2.length;have at':∀(j:Nat) (hj:j<us.length),EqAt A.in1 s us[j] ux (e' j):=λj hj=>by
  have ha:ys[j]?=some ys[j]:=Uy (by omega);obtain⟨va,a1,a2⟩:=v2.get ha;obtain⟨u,a3,a4⟩:=p2.get a1;have eu:us[j]=u:=(List.getElem?_eq_some_iff.mp a3).2;rw[eu];exact(zZ I hr Ev.deep A.in1 _ _ _ _ _ _ _ (by show A.units+1+Ev.deep<cLine;exact hu) a2 v1 a4 rx (h1 j _ ha)).eq
 refine⟨λy=>decide (∃j,∃hj:j<us.length,us[j]=y/\e' j=true),λy hy=>?_,?_⟩
 .by_cases hx:∃j,∃hj:j<us.length,us[j]=y/\e' j=true
  .obtain⟨j,hj,rfl,ej⟩:=hx;have q:=at' j hj;rw[ej]at q;have:decide (∃j',∃hj':j'<us.length,us[j']=us[j]/\e' j'=true)=true:=aaj ⟨j,hj,rfl,ej⟩;show EqAt A.in1 s us[j] ux (decide (∃j',∃hj':j'<us.length,us[j']=us[j]/\e' j'=true));rw[this];exact q
  .show EqAt A.in1 s y ux (decide (∃j',∃hj':j'<us.length,us[j']=y/\e' j'=true));rw[aac hx];have hy':y∈us:=by simpa using hy
   obtain⟨j,hj,rfl⟩:=ab6 hy';have q:=at' j hj;have:e' j=false:=by
    cases z:e' j with
    |false=>rfl
    |true=>exact absurd ⟨j,hj,rfl,z⟩ hx
   rw[this]at q;exact q
 .rw[<-h2,ab3,Array.any_eq_true',abR];constructor
  .rintro⟨y,hy,hd⟩;obtain⟨j,hj,_,ej⟩:=aas hd;exact⟨j,List.mem_range.mpr (by omega),ej⟩
  .rintro⟨j,hj,ej⟩;have hj':j<us.length:=by have:=List.mem_range.mp hj;omega
   exact⟨us[j],by simp,aaj ⟨j,hj',rfl,ej⟩⟩
end
section
variable{G:Tb}{n:Nat}{sc:Scope}{N:List Str}{df:Bool}{X:Cx}
def in_of(g:Good G n sc N df X){pins:List (Addr×Obj)}{σ:L2.St}{H:Hp}{s:Shared}{r:List Addr}{h:Hh}(I:Inv X pins σ H s)(hr:HR X.K H r h){a b:D}{x y:V}{v u:Value}{k:Bool}(v1:RV X.K H r a x)(v2:RV X.K H r b y)(rx:RelV x v)(ry:RelV y u)(e:Ev.isin a b h=some k) :
  (∀Q:Value->Shared->Prop,∀E:Value->Shared->Prop,Q (.bool k) s->wpAny (model X.prog X.w) X.A (compareOp .In v u) Q E s)/\(∀Q:Value->Shared->Prop,∀E:Value->Shared->Prop,Q (.bool (!k)) s->wpAny (model X.prog X.w) X.A (compareOp .NotIn v u) Q E s):=by
 have hu:=g.units;cases b with
 |str l=>
  cases a with
  |str c=>
   have s1:=v1.shape;have s2:=v2.shape;simp only[cK]at s1 s2;subst s1 s2;obtain⟨t,rfl⟩:=rx;obtain⟨t',rfl⟩:=ry
   match c,e with
   |[c],e=>
    cases e;have q:(!(Builtin.Str.occurrences (aB l) (aB [c]) 0 (aB l).length 1).isEmpty)=l.contains c:=by
     have:=PySem.StrLaws.found_one (aB l) c;rw[show(aB [c])=⟨#[c]⟩from rfl,this,ab3];have e1:l.contains c=true↔c∈l:=by simp
     rw[e1];exact⟨λz=>by simpa[aB]using aas z,λz=>aaj (by simpa[aB]using z)⟩
    refine⟨λQ E hq=>in_str (by rw[q];exact hq),λQ E hq=>notIn_str (by rw[q];exact hq)⟩
   |[],e=>cases e
   |_ :: _ :: _,e=>cases e
  |_=>cases e
 |tup ys=>
  obtain⟨p,vs,rfl,z,w⟩:=v2.shape;cases ry;obtain⟨us,pv,pt,_⟩:=I.tuple z;obtain⟨f,f1,f2⟩:=yL I hr hu v1 rx w pv e;refine⟨λQ E hq=>in_tupleAt f pt f1 (by rw[f2];exact hq),λQ E hq=>notIn_tupleAt f pt f1 (by rw[f2];exact hq)⟩
 |ref i=>
  simp only[Ev.isin,NN]at e;obtain⟨ds,e1,e2⟩:=e;obtain⟨p,rfl,z⟩:=v2.shape;cases ry;obtain⟨p',vs,z',q1,w⟩:=hr.read e1;rw[z]at z';cases z';obtain⟨us,pv,pl,_⟩:=I.list q1;obtain⟨f,f1,f2⟩:=yL I hr hu v1 rx w pv e2;refine⟨λQ E hq=>in_listAt f pl.isList f1 (by rw[f2];exact hq),λQ E hq=>notIn_listAt f pl.isList f1 (by rw[f2];exact hq)⟩
 |_=>cases e
def QM(g:Good G n sc N df X):cV X (compareOp .In) (fT X.K (eK .isin)):=by
 intro pins s σ H x y v u Q I rx ry q;obtain⟨r,h,a,b,d,h',hr,v1,v2,e,q⟩:=q;obtain⟨k,e1,rfl,rfl⟩:=iY e;exact(in_of g I hr v1 v2 rx ry (show Ev.isin a b h'=some k by cases a<;>cases b<;>exact e1)).1 _ _ (nZ I hr q)
def D0(g:Good G n sc N df X):cV X (compareOp .NotIn) (fT X.K (eK .fq)):=by
 intro pins s σ H x y v u Q I rx ry q;obtain⟨r,h,a,b,d,h',hr,v1,v2,e,q⟩:=q;obtain⟨k,e1,rfl,rfl⟩:=iY e;have e2:(Ev.isin a b h').map (!·)=some k:=by cases a<;>cases b<;>exact e1
 simp only[gV]at e2;obtain⟨k',e3,rfl⟩:=e2;exact(in_of g I hr v1 v2 rx ry e3).2 _ _ (nZ I hr q)
def rY(a b:List Nat):aB a++aB b=aB (a++b):=by
 show Str.append (aB a) (aB b)=_;simp[Str.append,aB]
def Ik{pins:List (Addr×Obj)}{σ:L2.St}{H:Hp}{s:Shared}{Q:Value->Shared->Prop}{E:Value->Shared->Prop}(I:Inv X pins σ H s){a b:Addr}{ys:List V}(h1:ee X.K H a [])(h2:ee X.K H b ys)(q:Q (.ref b) s):wpAny (model X.prog X.w) X.A (binaryOp .Add (.ref a) (.ref b)) Q E s:=by
 obtain⟨us,p1,XU,_⟩:=I.tuple h1;obtain⟨zs,p2,XW,_⟩:=I.tuple h2;cases p1;obtain⟨⟨cls,dd,data,sl⟩,ho,hc,n,hd⟩:=id XU;obtain⟨⟨V0,dd2,data2,sl2⟩,ho2,hc2,n2,hd2⟩:=id XW;simp only at hc hd hc2 hd2;subst hc hd hc2 hd2;exact concat_meets ⟨_,ho,rfl⟩ ⟨_,ho2,rfl⟩ acz seq_tuple_add abM abG (abD _ _)
  (tuple_addW0 a b _ _ n n2 dd dd2 sl sl2 (by simp)) ⟨ho,ho2,q⟩
def LL:cV X (binaryOp .Add) (fT X.K (Ev.bV .add)):=by
 intro pins s σ H x y v u Q I rx ry q;obtain⟨r,h,a,b,d,h',hr,v1,v2,e,q⟩:=q;have s1:=v1.shape;have s2:=v2.shape;cases a with
 |int i=>cases b with
  |int j=>cases e;exact Kz pins s σ H x y v u Q I rx ry ⟨i,j,s1,s2,q.here rfl hr⟩
  |_=>cases e
 |str i=>cases b with
  |str j=>
   delta Ev.bV at e;dsimp only at e
   split at e
   .rename_i hz;cases e;rw[jX]at hz;refine zJ pins s σ H x y v u Q I rx ry ⟨aB i,aB j,s1,s2,by rw[bf,bf];exact hz,?_⟩;rw[rY];exact q.here ⟨rfl,by rw[Yt];exact hz⟩ hr
   .cases e
  |_=>cases e
 |tup i=>cases b with
  |tup j=>
   delta Ev.bV at e;dsimp only at e
   split at e
   .rename_i hz;cases e;rw[jX]at hz;obtain⟨pa,vs,rfl,z1,w1⟩:=s1;obtain⟨pb,ws,rfl,z2,w2⟩:=s2;have l1:=w1.length;have l2:=w2.length;cases vs with
    |nil=>
     cases rx;cases ry;refine Ik I z1 z2 ⟨.ref pb,H,I,rfl,q.here ?_ hr⟩;have:i=[]:=by cases i with|nil=>rfl|cons _ _=>simp at l1
     subst this;exact⟨pb,ws,rfl,z2,by simpa using w2⟩
    |cons v0 vs=>
     refine HJ pins s σ H _ _ v u Q I rx ry ⟨pa,pb,v0 :: vs,ws,rfl,rfl,z1,z2,by simp,by rw[l1,l2];exact hz,λhw=>?_,λhw p hp=>?_⟩
     .subst hw;have:j=[]:=by cases j with|nil=>rfl|cons _ _=>simp at l2
      subst this;exact q.here ⟨pa,v0 :: vs,rfl,z1,by simpa using w1⟩ hr
     .exact q.tup (w1.append w2) hr hp
   .cases e
  |_=>cases e
 |ref i=>cases b with
  |ref j=>
   delta Ev.bV at e;dsimp only at e
   split at e
   .rename_i ds es e1 e2;obtain⟨pa,rfl,z1⟩:=s1;obtain⟨pb,rfl,z2⟩:=s2;cases rx;cases ry;obtain⟨p1,g1,vs,g2,g3⟩:=hr.ob _ _ e1;obtain⟨p2,k1,ws,k2,k3⟩:=hr.ob _ _ e2;rw[z1]at g1;cases g1;rw[z2]at k1;cases k1;obtain⟨hz,q2⟩:=q.lst e (g3.append k3) hr;exact KZ pins s σ H (.ref pa) (.ref pb) _ _ Q I rfl rfl ⟨_,_,vs,ws,rfl,rfl,g2,k2,by rw[Yt]at hz;exact hz,q2⟩
   .cases e
  |_=>cases e
 |_=>cases b<;>cases e
def LM:cV X (binaryOp .Sub) (fT X.K (Ev.bV .sub)):=by
 intro pins s σ H x y v u Q I rx ry q;obtain⟨r,h,a,b,d,h',hr,v1,v2,e,q⟩:=q;cases a with
 |int i=>cases b with
  |int j=>cases e;exact KA pins s σ H x y v u Q I rx ry ⟨i,j,v1,v2,q.here rfl hr⟩
  |_=>cases e
 |_=>cases b<;>cases e
def Il:cV X (binaryOp .FloorDiv) (fT X.K (Ev.bV .fdiv)):=by
 intro pins s σ H x y v u Q I rx ry q;obtain⟨r,h,a,b,d,h',hr,v1,v2,e,q⟩:=q;cases a with
 |int i=>cases b with
  |int j=>
   delta Ev.bV at e;dsimp only at e
   split at e
   .rename_i hz;cases e;exact HA pins s σ H x y v u Q I rx ry ⟨i,j,v1,v2,hz,q.here rfl hr⟩
   .cases e
  |_=>cases e
 |_=>cases b<;>cases e
def LN:cV X (binaryOp .Mod) (fT X.K (Ev.bV .mod)):=by
 intro pins s σ H x y v u Q I rx ry q;obtain⟨r,h,a,b,d,h',hr,v1,v2,e,q⟩:=q;cases a with
 |int i=>cases b with
  |int j=>
   delta Ev.bV at e;dsimp only at e
   split at e
   .rename_i hz;cases e;exact KD pins s σ H x y v u Q I rx ry ⟨i,j,v1,v2,hz,q.here rfl hr⟩
   .cases e
  |_=>cases e
 |_=>cases b<;>cases e
end
section
variable{X:Cx}
def LO(n:Nat)(i:Int):Ev.dO n i=L2.dO n i:=rfl
def LP{α:Type}(xs:List α)(i:Int):Ev.bL xs i=L2.bL xs i:=rfl
theorem aG.bL{K:PySem.W.Frag}{H:Hp}{r:List Addr}{ds:List D}{vs:List V}{i:Int}{d:D}(w:aG K H r ds vs)(e:Ev.bL ds i=some d):∃v,L2.bL vs i=some v/\RV K H r d v:=by
 unfold Ev.bL at e;obtain⟨j,e1,e2⟩:=Option.bind_eq_some_iff.mp e;obtain⟨v,e3,e4⟩:=w.get e2;exact⟨v,by unfold L2.bL;rw[w.length,<-LO,e1];exact e3,e4⟩
def QN:yu X (fT X.K Lj):=by
 intro value slice pins s σ H x y v u Q I rx ry q hs;obtain⟨r,h,a,b,d,h',hr,v1,v2,e,q⟩:=q;obtain⟨e,rfl⟩:=Ev.aI e;cases b with
 |int i=>
  have s2:=v2.shape;cases a with
  |tup ds=>
   obtain⟨p,vs,rfl,z,w⟩:=v1.shape;obtain⟨v',g1,g2⟩:=w.bL e;exact KR value slice pins s σ H _ y v u Q I rx ry ⟨p,vs,i,v',rfl,s2,z,g1,q.here g2 hr⟩ hs
  |str l=>
   simp only[RV]at v1;obtain⟨rfl,hl⟩:=v1;simp only[Ev.gf,gV]at e;obtain⟨c,e1,rfl⟩:=e;exact KS value slice pins s σ H _ y v u Q I rx ry ⟨aB l,i,c,rfl,s2,by rw[bf];exact hl,by simpa[aB,LP]using e1,q.here ⟨rfl,by show 1<=sizeLine;decide⟩ hr⟩ hs
  |ref m=>
   simp only[Ev.gf,NN]at e;obtain⟨ds,e1,e2⟩:=e;obtain⟨p,rfl,z⟩:=v1.shape;obtain⟨p',vs,z',q1,w⟩:=hr.read e1;rw[z]at z';cases z';obtain⟨v',g1,g2⟩:=w.bL e2;exact HL value slice pins s σ H _ y v u Q I rx ry ⟨p,vs,i,v',rfl,s2,q1,g1,q.here g2 hr⟩ hs
  |_=>cases e
 |_=>cases a<;>cases e
theorem aG.cut{K:PySem.W.Frag}{H:Hp}{r:List Addr}{ds:List D}{vs:List V}(w:aG K H r ds vs)(lo hi:Option Int):aG K H r (Ev.cut ds lo hi) (m8 vs lo hi):=by
 unfold Ev.cut m8;rw[w.length];exact(w.drop _).take _
def tZ{α:Type}(xs:List α)(lo hi:Option Int)(h:Ev.aS xs.length 0 lo=0/\Ev.aS xs.length xs.length hi=xs.length):Ev.cut xs lo hi=xs:=by
 unfold Ev.cut;rw[h.1,h.2];simp
def Im{α:Type}(xs:List α)(lo hi:Option Int):(Ev.cut xs lo hi).length<=xs.length:=by
 unfold Ev.cut;rw[aba,abb];omega
def uu{prog:Program}{w:World}{A:Around}{E:Value->Shared->Prop}{s:Shared}{t sl:Addr}{items:Array Value}{vl vu:Value}{lo hi:Option Int}{Q:Value->Shared->Prop}(ht:IsTup s.heap t items)(hs:s.heap.IsSliceOf sl vl vu .none)(pl:IsPart vl lo)(pu:IsPart vu hi)
  (hw:HT.aS items.size 0 lo=0/\HT.aS items.size items.size hi=items.size) (h:Q (.ref t) s):wpAny (model prog w) A (getItem (.ref t) (.ref sl)) Q E s:=by
 obtain⟨os,hos,hcs,hds⟩:=id hs;have Bp:s.TypeIs (.ref sl) "slice" :=⟨os,hos,hcs⟩
 unfold getItem;try with_reducible refine acg ?_
 first|refine gF (uq ?_)|skip
 refine gF (ack ht.typeIs (by decide) ?_);refine gF (aaZ (name:=Str.ofString "__getitem__") ht.typeIs aaA
  (aaU aaA ht.typeIs ab5 ?_ (ab9 _ _)))
 show wpAny _ _ (Builtin.Tuple.tupleItemsOf (.ref t) >>= _) _ _ s;refine gF (tupleItemsOf_ ht ?_);refine gF (abX Bp ?_);rw[JP (by decide)];refine gF (HT.jU hs pl pu ?_);have hyes:(((HT.aS items.size 0 lo:Nat):Int)==0&&(1:Int)==1&&(HT.aS items.size items.size hi - HT.aS items.size 0 lo)==items.size)=true:=by
  rw[hw.1,hw.2];simp
 show wpAny _ _ (if (((HT.aS items.size 0 lo:Nat):Int)==0&&(1:Int)==1&&(HT.aS items.size items.size hi - HT.aS items.size 0 lo)==items.size)=true then _ else _) _ _ s;rw[JP hyes];refine gF (m:=Builtin.Tuple.tupleIsExact (.ref t)) (gF (abX ht.typeIs (uq ?_)));show wpAny _ _ (if ((Value.type "tuple" ==Value.type "tuple")=true)then _ else _) _ _ s;rw[JP (by decide)];exact gF (acq (gF (uq (uq ⟨_,rfl,uq h⟩))))
def BW(lo hi:Option Int)(n:Nat):Builtin.Str.strSliceIndices lo hi 1 n=(List.range (Ev.aS n n hi - Ev.aS n 0 lo)).map (λk=>Ev.aS n 0 lo+k):=by
 have LQ:∀o:Option Int,((match o with|none=>(0:Int)|some i=>max 0 (min (if i<0 then i+(n:Int)else i) (n:Int))))=((Ev.aS n 0 o:Nat):Int):=λo=>by
  cases o with
  |none=>rfl
  |some i=>simp only[Ev.aS];split<;>omega
 have LR:∀o:Option Int,((match o with|none=>(n:Int)|some i=>max 0 (min (if i<0 then i+(n:Int)else i) (n:Int))))=((Ev.aS n n o:Nat):Int):=λo=>by
  cases o with
  |none=>rfl
  |some i=>simp only[Ev.aS];split<;>omega
 have e:Builtin.Str.strSliceIndices lo hi 1 n=sliceRange (match lo with|none=>(0:Int)|some i=>max 0 (min (if i<0 then i+(n:Int)else i) (n:Int))) (match hi with|none=>(n:Int)|some i=>max 0 (min (if i<0 then i+(n:Int)else i) (n:Int))) 1:=by
  unfold Builtin.Str.strSliceIndices;cases lo<;>cases hi<;>simp
 rw[e,LQ,LR,sliceRange_one]
def LS(l:List Nat)(lo hi:Option Int):((Builtin.Str.strSliceIndices lo hi 1 (aB l).length).filterMap ((aB l).cps[·]?)).toArray=(Ev.cut l lo hi).toArray:=by
 rw[bf,BW,pick_run];simp[aB,Ev.cut]
def LU:lI X (K6 X.K):=by
 intro pins s σ H x v vl vu lo hi sl Q I rx hs pl pu q;obtain⟨r,h,a,d,h',hr,v1,e,q⟩:=q;cases a with
 |tup ds=>
  cases e;obtain⟨p,vs,rfl,z,w⟩:=v1.shape;by_cases hw:HT.aS vs.length 0 lo=0/\HT.aS vs.length vs.length hi=vs.length
  .cases rx;obtain⟨us,pv,pt,hz⟩:=I.tuple z;have hl:=pv.length;have XX:Ev.aS ds.length 0 lo=0/\Ev.aS ds.length ds.length hi=ds.length:=by rw[<-w.length];exact hw
   refine⟨"tuple",_,PyProof.Rows.slot_tuple_getitem.lookup,pt.typeIs,?_⟩;refine uu pt hs pl pu (by rw[G3,<-hl];exact hw) ⟨.ref p,H,I,rfl,q.here ?_ hr⟩;rw[tZ ds lo hi XX];exact⟨p,vs,rfl,z,w⟩
  .exact KQ pins s σ H _ v vl vu lo hi sl Q I rx hs pl pu ⟨p,vs,rfl,z,hw,λp' hp=>q.tup (w.cut lo hi) hr hp⟩
 |str l=>
  simp only[RV]at v1;obtain⟨rfl,hl⟩:=v1;obtain⟨t,rfl⟩:=rx;cases e;refine⟨"str",_,PySem.F.slot_str_getitem.lookup,abr s _ t,?_⟩;have part:∀{v:Value} {o:Option Int},IsPart v o->∃p:Option (Int×Tok),v=partValue p/\p.map (·.1)=o:=λ{v o} hp=>by
   cases hp with
   |none=>exact⟨none,rfl,rfl⟩
   |int i t=>exact⟨some (i,t),rfl,rfl⟩
  obtain⟨l1,e1,e2⟩:=part pl;obtain⟨u1,e3,e4⟩:=part pu;subst e1 e3;obtain⟨os,hos,hcs,hds⟩:=hs;refine wpAny_getItem_str_slice (l:=l1) (u:=u1) (st:=none) ⟨os,hos,hcs,hds⟩ rfl ?_;have GI:((slicePicked (aB l) l1 u1 none).filterMap ((aB l).cps[·]?)).toArray=(Ev.cut l lo hi).toArray:=by
   show((Builtin.Str.strSliceIndices (l1.map (·.1)) (u1.map (·.1)) 1 (aB l).length).filterMap ((aB l).cps[·]?)).toArray=_;rw[e2,e4];exact LS l lo hi
  have hcl:=Im l lo hi;unfold sliceMade;refine post_val_or_made (λ_=>?_) λt' k=>?_
  .rw[GI];show(Ev.cut l lo hi).toArray.size<=sizeLine;simp only[G3];omega
  .have hres:(if (((none:Option (Int×Tok)).map (·.1)).getD 1==1&&(slicePicked (aB l) l1 u1 none).length==(aB l).length)=true then aB l else (⟨((slicePicked (aB l) l1 u1 none).filterMap ((aB l).cps[·]?)).toArray⟩:Str))=aB (Ev.cut l lo hi):=by
    split
    .rename_i hc;rw[xg]at hc;have hlen:(slicePicked (aB l) l1 u1 none).length=(aB l).length:=eq_of_beq hc.2;have hlen2:(slicePicked (aB l) l1 u1 none).length=Ev.aS l.length l.length hi - Ev.aS l.length 0 lo:=by
      show(Builtin.Str.strSliceIndices (l1.map (·.1)) (u1.map (·.1)) 1 (aB l).length).length=_;rw[e2,e4,BW,bf];simp
     rw[bf]at hlen;have hb:Ev.aS l.length l.length hi<=l.length:=HT.vm _ _ (WE _) hi;have ha:Ev.aS l.length 0 lo<=l.length:=HT.vm _ _ (aaW _) lo;rw[tZ l lo hi ⟨by omega,by omega⟩]
    .rw[GI];rfl
   rw[hres];exact⟨.str (aB (Ev.cut l lo hi)),H,I.tok _,⟨_,rfl⟩,q.here ⟨rfl,by omega⟩ hr⟩
 |ref m=>
  simp only[Ev.eV]at e;split at e
  .rename_i ds e1;obtain⟨p,rfl,z⟩:=v1.shape;obtain⟨p',vs,z',q1,w⟩:=hr.read e1;rw[z]at z';cases z';obtain⟨hz,q2⟩:=q.lst e (w.cut lo hi) hr;exact HM pins s σ H _ v vl vu lo hi sl Q I rx hs pl pu ⟨p,vs,rfl,q1,q2⟩
  .cases e
 |_=>cases e
theorem vM:∀(k:Nat) (l:List Nat) (acc:List Nat),(List.replicate k l.toArray).foldl (·++·) acc.toArray=(acc++Ev.rep k l).toArray
 |0,l,acc=>by simp[Ev.rep]
 |k+1,l,acc=>by
  rw[Y5,aaF];have:acc.toArray++l.toArray=(acc++l).toArray:=by simp
  rw[this,vM k l (acc++l)];simp[Ev.rep,Y5]
def oh{α:Type}(k:Nat)(l:List α):(Ev.rep k l).length=k*l.length:=by
 unfold Ev.rep;exact len_rep l k
def Io{l:List Nat}{k:Int}(h:0<=k):Txt.mul (aB l) k=aB (Ev.rep k.toNat l):=by
 unfold Txt.mul;by_cases h1:k<1
 .have:k=0:=by omega
  subst this;rw[JP (by decide)];rfl
 .rw[Yu h1];split
  .rename_i hc;rw[aaQ]at hc;rcases hc with hc|hc
   .have:k=1:=by simpa using hc
    subst this;simp[Ev.rep]
   .rw[bf]at hc;have:l=[]:=by cases l with|nil=>rfl|cons _ _=>simp at hc
    subst this;simp[Ev.rep,aB]
  .show(⟨(List.replicate k.toNat (aB l).cps).foldl (·++·) #[]⟩:Str)=_;have:=vM k.toNat l [];simp only[abx]at this;exact aab Str.mk this
def ko{a b:Nat}(h1:a<=1000)(h2:b<=1000):a*b<=sizeLine:=aaa (Nat.mul_le_mul h1 h2) (by decide)
def Ip{pins:List (Addr×Obj)}{σ:L2.St}{H:Hp}{s:Shared}{Q:VK}(I:Inv X pins σ H s){l:List Nat}{k:Int}{t u:Tok}(hk:0<=k/\k<=1000/\l.length<=1000)(q:Q (.str (aB (Ev.rep k.toNat l))) H) :
  wpAny (model X.prog X.w) X.A (binaryOp .Mult (.str (aB l) t) (.int k u)) (EP X pins σ Q) X.xe s:=by
 have hok:MulOk (aB l) k:=mulOk_of 1000 1000 (by rw[bf];exact hk.2.2) (by exact hk.2.1) (by omega) (by decide) (by decide);refine SB.mul hok λt' k'=>?_;rw[Io hk.1];exact⟨.str _,H,I.tok _,⟨_,rfl⟩,q⟩
def pN:fillsNumberSlot (.type "tuple") "mul" = pure false:=
 PySem.fillsNumberSlot_seq (id:="tuple.__mul__") (r:=some (.builtin "tuple.__rmul__")) PySem.F.slot_tuple_mul.lookup (by decide +kernel) PySem.F.slot_tuple_rmul.lookup (by decide +kernel)
def vN:seqRepeat? (.type "tuple")=pure (some (.builtin "tuple.__mul__")):=by
 unfold seqRepeat?;rw[PySem.seqSlot_of (T:="tuple") (name:="__mul__") (id:="tuple.__mul__") PySem.F.slot_tuple_mul.lookup (by decide +kernel),PySem.seqSlot_of (T:="tuple") (name:="__rmul__") (id:="tuple.__rmul__") PySem.F.slot_tuple_rmul.lookup (by decide +kernel)];rfl
def Aa(a:Int)(t:Tok)(l:Addr)(items:Array Value)(n:Nat)(dd:Option Addr)(sl:Array (Option Value)) :
  Meets (Builtin.«int.__rmul__» ⟨[.int a t,.ref l],[]⟩) (λ_ R s=>s.heap.get? l=some { cls:=.type "tuple",dict:=dd,data:=.seq items n,slots:=sl }/\R (.ok (.ret Value.notImplemented)) s):=
 .of_wp λprog w A R s h=>by obtain⟨hp,g,d,tk,os⟩:=s;obtain⟨hl,h⟩:=h;wp_walk;exact⟨_,rfl,h⟩
def Ab(l:Addr)(items:Array Value)(n:Nat)(dd:Option Addr)(sl:Array (Option Value))(k:Int)(u:Tok)(h1:¬ (decide (k < -2 ^ 63) ||decide (k≥2 ^ 63))=true)(h3:(items.isEmpty ||k==1)=true) :
  Meets (Builtin.«tuple.__mul__» ⟨[.ref l,.int k u],[]⟩) (λ_ R s=>s.heap.get? l=some { cls:=.type "tuple",dict:=dd,data:=.seq items n,slots:=sl }/\R (.ok (.ret (.ref l))) s):=
 .of_wp λprog w A R s h=>by obtain⟨hp,g,d,tk,os⟩:=s;obtain⟨hl,h⟩:=h;have f1:=acD;wp_walk using aaE hl;rw[Yu h1];wp_walk using aaE hl;exact⟨_,rfl,h⟩
def Ac(l:Addr)(items:Array Value)(n:Nat)(dd:Option Addr)(sl:Array (Option Value))(k:Int)(u:Tok)(h1:¬ (decide (k < -2 ^ 63) ||decide (k≥2 ^ 63))=true)(h3:¬ (items.isEmpty ||k==1)=true)(h4:(decide (k<=0) ||items.isEmpty)=true) :
  Meets (Builtin.«tuple.__mul__» ⟨[.ref l,.int k u],[]⟩) (λ_ R s=>s.heap.get? l=some { cls:=.type "tuple",dict:=dd,data:=.seq items n,slots:=sl }/\R (.ok (.ret (Value.ref s.heap.objs.size))) { s with heap:=s.heap.push { cls:=Value.type "tuple",data:=Data.seq #[]},toks:=s.toks }):=
 .of_wp λprog w A R s h=>by obtain⟨hp,g,d,tk,os⟩:=s;obtain⟨hl,h⟩:=h;have f1:=acD;wp_walk using aaE hl;rw[Yu h1];wp_walk using aaE hl;exact⟨_,rfl,h⟩
def Ad(l:Addr)(items:Array Value)(n:Nat)(dd:Option Addr)(sl:Array (Option Value))(k:Int)(u:Tok)(h1:¬ (decide (k < -2 ^ 63) ||decide (k≥2 ^ 63))=true)(h3:¬ (items.isEmpty ||k==1)=true)(h4:¬ (decide (k<=0) ||items.isEmpty)=true)
  (h5:¬ (items.size*k > (2 ^ 63 - 1) / 8)) (h6:¬ Builtin.Tuple.tupleTooMany (items.size*k)=true) (hsz:(List.foldl (λx1 x2=>x1++x2) #[] (List.replicate k.toNat items)).size<=sizeLine) :
  Meets (Builtin.«tuple.__mul__» ⟨[.ref l,.int k u],[]⟩) (λ_ R s=>s.heap.get? l=some { cls:=.type "tuple",dict:=dd,data:=.seq items n,slots:=sl }/\R (.ok (.ret (Value.ref s.heap.objs.size))) { s with heap:=s.heap.push { cls:=Value.type "tuple",data:=Data.seq (List.foldl (λx1 x2=>x1++x2) #[] (List.replicate k.toNat items))},toks:=s.toks }):=
 .of_wp λprog w A R s h=>by obtain⟨hp,g,d,tk,os⟩:=s;obtain⟨hl,h⟩:=h;have f1:=acD;wp_walk using aaE hl;rw[Yu h1];wp_walk using aaE hl;rw[Yu h5];wp_walk using aaE hl;exact⟨_,rfl,h⟩
theorem t8:∀(k:Nat) (l acc:List Value),(List.replicate k l.toArray).foldl (·++·) acc.toArray=(acc++Ev.rep k l).toArray
 |0,l,acc=>by simp[Ev.rep]
 |k+1,l,acc=>by
  rw[Y5,aaF];have:acc.toArray++l.toArray=(acc++l).toArray:=by simp
  rw[this,t8 k l (acc++l)];simp[Ev.rep,Y5]
def Iq{pins:List (Addr×Obj)}{σ:L2.St}{H:Hp}{s:Shared}{Q:VK}(I:Inv X pins σ H s){p:Addr}{vs:List V}{k:Int}{u:Tok}(hk:0<=k/\k<=1000/\vs.length<=1000)(hp:ee X.K H p vs)
  (q1:Ev.rep k.toNat vs=vs->Q (.ref p) H) (q2:∀p',H p'=none->Q (.ref p') (upd H p' (.tup (Ev.rep k.toNat vs)))) :
  wpAny (model X.prog X.w) X.A (binaryOp .Mult (.ref p) (.int k u)) (EP X pins σ Q) X.xe s:=by
 obtain⟨us,pv,pt,hz⟩:=I.tuple hp;obtain⟨⟨cls,dd,data,sl⟩,ho,hc,n,hd⟩:=id pt;simp only at hc hd;subst hc hd;have hl:=pv.length;have h1:¬ (decide (k < -2 ^ 63) ||decide (k≥2 ^ 63))=true:=by simp;omega
 refine acs (T:="tuple") (U:="int") (by decide) ⟨_,ho,rfl⟩ (λs'=>acr s' k u) pN PySem.F.fills_int_mul acO vN PySem.F.slot_int_index.lookup
  (aaX acO (acr s k u) PySem.F.entry_int_rmul (PySem.F.args_int_rmul_2 _ _) (Aa k u p us.toArray n dd sl) ⟨ho,rfl,⟨_,ho,rfl⟩,?_⟩)
 have hrep:∀m:Nat,(Ev.rep m us).length=m*us.length:=λm=>oh m us;by_cases h3:(us.toArray.isEmpty ||k==1)=true
 .refine aaX abL ⟨_,ho,rfl⟩ abF (abC _ _) (Ab p us.toArray n dd sl k u h1 h3) ⟨ho,?_⟩;refine⟨.ref p,H,I,rfl,q1 ?_⟩;rw[aaQ]at h3;rcases h3 with h3|h3
  .have:us=[]:=by simpa using h3
   subst this;cases pv;simp[Ev.rep]
  .have:k=1:=by simpa using h3
   subst this;simp[Ev.rep]
 .have laid:∀m:Nat,m=k.toNat->EP X pins σ Q (.ref s.heap.objs.size) { s with heap:=s.heap.push { cls:=.type "tuple",data:=.seq (Ev.rep m us).toArray }}:=λm hm=>by
   subst hm;refine⟨.ref s.heap.objs.size,_,I.laid (t':=s.toks) (o:=.tup (Ev.rep k.toNat vs)) (λb ob q=>FJ _ q) (WE _) ?_,rfl,q2 _ (I.hok.fresh (WE _))⟩;exact⟨by rw[oh];exact ko (by omega) hk.2.2,_,pv.rep k.toNat,IsTup.new _ _⟩
  by_cases h4:(decide (k<=0) ||us.toArray.isEmpty)=true
  .refine aaX abL ⟨_,ho,rfl⟩ abF (abC _ _) (Ac p us.toArray n dd sl k u h1 h3 h4) ⟨ho,?_⟩;have hk0:k=0:=by
    rw[aaQ]at h4 h3;rcases h4 with h4|h4
    .have:k<=0:=aas h4;omega
    .exact absurd (.inl h4) h3
   have:=laid 0 (by rw[hk0];rfl);exact this
  .have hm:us.toArray.size*k.toNat<=1000000:=by
    rw[G3];exact Nat.mul_le_mul (by omega:us.length<=1000) (by omega:k.toNat<=1000)
   have hm':(us.toArray.size:Int)*k<=1000000:=by
    have e:(us.toArray.size:Int)*k=((us.toArray.size*k.toNat:Nat):Int):=by
     rw[Int.natCast_mul,Int.toNat_of_nonneg hk.1]
    rw[e];omega
   have hf:List.foldl (λx1 x2=>x1++x2) #[] (List.replicate k.toNat us.toArray)=(Ev.rep k.toNat us).toArray:=by
    have:=t8 k.toNat us [];simpa using this
   refine aaX abL ⟨_,ho,rfl⟩ abF (abC _ _) (Ad p us.toArray n dd sl k u h1 h3 h4 (by omega) ?_ ?_) ⟨ho,?_⟩
   .unfold Builtin.Tuple.tupleTooMany;simp only[aay];have:(sizeLine:Int)=16777216:=by rw[aa9];rfl
    omega
   .rw[hf];simp only[G3];rw[oh];exact ko (by omega) (by omega)
   .rw[hf];exact laid _ rfl
def LV:cV X (binaryOp .Mult) (fT X.K (Ev.bV .mul)):=by
 intro pins s σ H x y v u Q I rx ry q;obtain⟨r,h,a,b,d,h',hr,v1,v2,e,q⟩:=q;cases b with
 |int k=>
  have s2:=v2.shape;simp only[cK]at s2;subst s2;cases a with
  |int i=>
   delta Ev.bV at e;dsimp only at e
   split at e
   .rename_i hz;cases e;refine KC pins s σ H x _ v u Q I rx ry ⟨i,k,v1,rfl,?_,q.here rfl hr⟩;unfold Ev.bT at hz;simp only[aaQ,xg,aay]at hz;exact hz
   .cases e
  |str l=>
   delta Ev.bV at e;dsimp only at e
   split at e
   .rename_i hz;cases e;simp only[RV]at v1;obtain⟨rfl,hl⟩:=v1;obtain⟨t,rfl⟩:=rx;obtain⟨t',rfl⟩:=ry;exact Ip I hz (q.here ⟨rfl,by rw[oh];exact ko (by omega) hz.2.2⟩ hr)
   .cases e
  |tup ds=>
   delta Ev.bV at e;dsimp only at e
   split at e
   .rename_i hz;cases e;obtain⟨p,vs,rfl,z,w⟩:=v1.shape;cases rx;obtain⟨t',rfl⟩:=ry;refine Iq I ⟨hz.1,hz.2.1,by rw[w.length];exact hz.2.2⟩ z (λXY=>q.here ⟨p,vs,rfl,z,?_⟩ hr) λp' hp=>q.tup (w.rep k.toNat) hr hp;have:=w.rep k.toNat;rw[XY]at this;exact this
   .cases e
  |ref i=>
   delta Ev.bV at e;dsimp only at e
   split at e
   .rename_i ds e1;split at e
    .rename_i hz;obtain⟨p,rfl,z⟩:=v1.shape;obtain⟨p',g1,vs,g2,g3⟩:=hr.ob _ _ e1;rw[z]at g1;cases g1;obtain⟨hz2,q2⟩:=q.lst e (g3.rep k.toNat) hr;exact K0 pins s σ H (.ref p) _ v u Q I rx ry ⟨p,k,vs,rfl,rfl,g2,by omega,by omega,ko (by rw[g3.length];exact hz.2.2) (by omega),q2⟩
    .cases e
   .cases e
  |_=>cases e
 |_=>cases a<;>cases e
end
section
variable{X:Cx}
theorem vO{K:PySem.W.Frag}{H:Hp}{r:List Addr}:∀{ds:List D}{bs:List Bool}{vs:List V}{us:List Value},Ev.boolsOf ds=some bs->aG K H r ds vs->Vals vs us->us=bs.map Value.bool
 |[],bs,vs,us,e,w,p=>by
  cases e;simp only[aG]at w;subst w;cases p;rfl
 |d :: ds,bs,vs,us,e,w,p=>by
  cases d with
  |bl b=>
   simp only[Ev.boolsOf,gV]at e;obtain⟨bs',e1,rfl⟩:=e;simp only[aG,RV]at w;obtain⟨v,w',rfl,rfl,w2⟩:=w;cases p with
   |cons p1 p2=>
    cases p1;rw[vO e1 w2 p2];rfl
  |_=>cases e
theorem yN{K:PySem.W.Frag}{H:Hp}{r:List Addr}:∀{ds:List D}{is:List Int}{vs:List V}{us:List Value},Ev.intsOf ds=some is->aG K H r ds vs->Vals vs us->IntsAre us is
 |[],bs,vs,us,e,w,p=>by
  cases e;simp only[aG]at w;subst w;cases p;exact .nil
 |d :: ds,bs,vs,us,e,w,p=>by
  cases d with
  |int b=>
   simp only[Ev.intsOf,gV]at e;obtain⟨bs',e1,rfl⟩:=e;simp only[aG,RV]at w;obtain⟨v,w',rfl,rfl,w2⟩:=w;cases p with
   |cons p1 p2=>
    obtain⟨t,rfl⟩:=p1;exact .cons _ _ (yN e1 w2 p2)
  |_=>cases e
theorem yO{K:PySem.W.Frag}{H:Hp}{r:List Addr}:∀{ds:List D}{ss:List (List Nat)}{vs:List V}{us:List Value},Ev.strsOf ds=some ss->aG K H r ds vs->Vals vs us->StrsAre us (ss.map aB)/\∀l∈ss,l.length<=sizeLine
 |[],bs,vs,us,e,w,p=>by
  cases e;simp only[aG]at w;subst w;cases p;exact⟨.nil,λl h=>nomatch h⟩
 |d :: ds,bs,vs,us,e,w,p=>by
  cases d with
  |str b=>
   simp only[Ev.strsOf,gV]at e;obtain⟨bs',e1,rfl⟩:=e;simp only[aG,RV]at w;obtain⟨v,w',rfl,⟨rfl,hb⟩,w2⟩:=w;cases p with
   |cons p1 p2=>
    obtain⟨t,rfl⟩:=p1;obtain⟨g1,g2⟩:=yO e1 w2 p2;refine⟨.cons _ _ g1,λl hl=>?_⟩;rcases List.mem_cons.mp hl with z|z
    .subst z;exact hb
    .exact g2 l z
  |_=>cases e
def t9{A:Around}{pins:List (Addr×Obj)}{σ:L2.St}{H:Hp}{s:Shared}(I:Inv X pins σ H s){p:Addr}{us:List Value}(pl:PlainL s.heap p us.toArray){Q:Value->Shared->Prop}{E:Value->Shared->Prop}
  (h:∀s₂:Shared,s₂={ s with heap:=s.heap.push { cls:=.type "list_iterator",data:=.fields #[.ref p,.int 0 0]}}->(s₂.heap.IsListIter s.heap.objs.size p 0/\s₂.heap.IsList p us.toArray)->p≠s.heap.objs.size->(∀b∈[s.heap.objs.size,p],b<s₂.heap.objs.size)->Q (.ref s.heap.objs.size) s₂) :
  wpAny (model X.prog X.w) A (pyIter (.ref p)) Q E s:=by
 have hlt:p<s.heap.objs.size:=by obtain⟨_,e,_⟩:=pl.isList;exact Xl e
 refine wpAny_pyIter_list pl.isList (h _ rfl ⟨⟨_,aae _ rfl,rfl,rfl⟩,pl.isList.push _⟩ (aaq hlt) λb hb=>?_);show b<(s.heap.push _).objs.size;rw[Heap.size_push];rcases List.mem_cons.mp hb with z|z
 .rw[z];exact abQ _
 .rw[List.mem_singleton.mp z];exact Nat.lt_succ_of_lt hlt
def all_range{bs:List Bool}:(List.range bs.length).all (λi=>bs[i]?.getD true)=bs.all id:=by
 rw[ab3,abc,abc];constructor
 .intro h b hb;obtain⟨i,hi,rfl⟩:=ab6 hb;simpa[hi]using h i (List.mem_range.mpr hi)
 .intro h i hi;have hi':=List.mem_range.mp hi;simpa[hi']using h bs[i] (by simp)
def any_range{bs:List Bool}:(List.range bs.length).any (λi=>bs[i]?.getD true)=bs.any id:=by
 rw[ab3,abR,abR];constructor
 .rintro⟨i,hi,h⟩;have hi':=List.mem_range.mp hi;exact⟨bs[i],by simp,by simpa[hi']using h⟩
 .rintro⟨b,hb,h⟩;obtain⟨i,hi,rfl⟩:=ab6 hb;exact⟨i,List.mem_range.mpr hi,by simpa[hi]using h⟩
def ua {s s₂:Shared}{I p:Addr}{h':Heap}(e:s₂.heap=s.heap.push { cls:=.type "list_iterator",data:=.fields #[.ref p,.int 0 0]}) (hI:I=s.heap.objs.size) (hk:∀b o,b∉[I]->s₂.heap.get? b=some o->h'.get? b=some o) :
  ∀b o,s.heap.get? b=some o->h'.get? b=some o:=λb o q=>hk b o (by simp;rw[hI];exact aaq (Xl q)) (by rw[e];exact FJ _ q)
variable{G:Tb}{n:Nat}{sc:Scope}{N:List Str}{df:Bool}
def D3(g:Good G n sc N df X){pins:List (Addr×Obj)}{σ:L2.St}{H:Hp}{s:Shared}(I:Inv X pins σ H s){p:Addr}{bs:List Bool}(pl:PlainL s.heap p (bs.map Value.bool).toArray){Q:VK} :
  (Q (.bl (bs.all id)) H->wpAny (model X.prog X.w) X.A (call (.builtin "all") [.ref p]) (EP X pins σ Q) X.xe s)/\(Q (.bl (bs.any id)) H->wpAny (model X.prog X.w) X.A (call (.builtin "any") [.ref p]) (EP X pins σ Q) X.xe s):=by
 have hh:=I.ok.hd g.calm;have tr:TruthOf X.prog X.w X.A.in1 (λi v=>(bs.map Value.bool).toArray[i]?=some v) (λi=>bs[i]?.getD true):=λi v s' Q' E' hP hQ=>by
  simp only[acQ,aat,gV]at hP;obtain⟨b,hb,rfl⟩:=hP;have Uc:Q' (bs[i]?.getD true) s':=hQ;rw[hb]at Uc;exact aaP Uc
 have hsz:(bs.map Value.bool).toArray.size=bs.length:=by simp
 constructor
 .intro q;refine call_all_walk (t9 I pl λs₂ e st hne hfp=>?_);subst e;refine⟨_,_,_,_,_,_,_,rfl,Walks.list (A:=X.A.in1) hh _ p hne (bs.map Value.bool).toArray,st,tr,λh' tk hk=>?_⟩;rw[hsz,all_range];exact⟨.bl _,H,I.kept (ua rfl rfl hk),rfl,q⟩
 .intro q;refine call_any_walk (t9 I pl λs₂ e st hne hfp=>?_);subst e;refine⟨_,_,_,_,_,_,_,rfl,Walks.list (A:=X.A.in1) hh _ p hne (bs.map Value.bool).toArray,st,tr,λh' tk hk=>?_⟩;rw[hsz,any_range];exact⟨.bl _,H,I.kept (ua rfl rfl hk),rfl,q⟩
def LW (g:Good G n sc N df X):fG X (.builtin "all") (oV X.K (Ev.cH .all)):=by
 intro pins s σ H xs us Q I r q;obtain⟨rr,h,as,d,h',hr,v1,e,q⟩:=q
 match as,e with
 |[.ref m],e=>
  obtain⟨e,rfl⟩:=Ev.aI e;simp only[gV,NN]at e;obtain⟨bs,⟨ds,e1,e2⟩,rfl⟩:=e;simp only[aG,RV]at v1;obtain⟨v,w,rfl,⟨p,rfl,z⟩,rfl⟩:=v1;obtain⟨u,rfl,ru⟩:=vals1 r;cases ru;obtain⟨p',vs,z',q1,w⟩:=hr.read e1;rw[z]at z';cases z';obtain⟨zs,pv,pl,_⟩:=I.list q1;have:=vO e2 w pv;subst this;exact(D3 g I pl).1 (q.here rfl hr)
def LX (g:Good G n sc N df X):fG X (.builtin "sum") (oV X.K (Ev.cH .sum)):=by
 intro pins s σ H xs us Q I r q;obtain⟨rr,h,as,d,h',hr,v1,e,q⟩:=q
 match as,e with
 |[.ref m],e=>
  obtain⟨e,rfl⟩:=Ev.aI e;simp only[gV,NN]at e;obtain⟨is,⟨ds,e1,e2⟩,rfl⟩:=e;simp only[aG,RV]at v1;obtain⟨v,w,rfl,⟨p,rfl,z⟩,rfl⟩:=v1;obtain⟨u,rfl,ru⟩:=vals1 r;cases ru;obtain⟨p',vs,z',q1,w⟩:=hr.read e1;rw[z]at z';cases z';obtain⟨zs,pv,pl,_⟩:=I.list q1;have hi:=yN e2 w pv;obtain⟨ys,hys⟩:=(hi.allInts).items;have hl:s.heap.IsList p (intItems ys):=by rw[<-hys];exact pl.isList
  refine sum_intListG (I.ok.hd g.calm) hl λh'' tk t' hk=>?_;have hsum:preSum (numAt ys) ys.size=is.sum:=by
   have h1:numsOf zs.toArray.toList=is:=by rw[show zs.toArray.toList=zs from rfl];exact hi.numsOf
   rw[hys,nums_intItems]at h1;rw[preSum_eq,aau (by simp),h1]
  rw[hsum];exact⟨.int is.sum,H,I.kept hk,⟨_,rfl⟩,q.here rfl hr⟩
def LY:fG X (.builtin "len") (oV X.K (Ev.cH .len)):=by
 intro pins s σ H xs us Q I r q;obtain⟨rr,h,as,d,h',hr,v1,e,q⟩:=q
 match as,e with
 |[.str l],e=>
  delta Ev.cH at e;dsimp only at e
  split at e
  .cases e;simp only[aG,RV]at v1;obtain⟨v,w,rfl,⟨rfl,hl⟩,rfl⟩:=v1;refine vp pins s σ H _ us Q I r ⟨_,rfl,by rw[bf];exact hl,?_⟩;rw[bf];exact q.here rfl hr
  .cases e
 |[.tup ds],e=>
  cases e;simp only[aG,RV]at v1;obtain⟨v,w,rfl,⟨p,vs,rfl,z,w'⟩,rfl⟩:=v1;refine nc pins s σ H _ us Q I r ⟨p,vs,rfl,.inr z,?_⟩;rw[w'.length];exact q.here rfl hr
 |[.ref m],e=>
  obtain⟨e,rfl⟩:=Ev.aI e;simp only[gV]at e;obtain⟨ds,e1,rfl⟩:=e;simp only[aG,RV]at v1;obtain⟨v,w,rfl,⟨p,rfl,z⟩,rfl⟩:=v1;obtain⟨p',vs,z',q1,w⟩:=hr.read e1;rw[z]at z';cases z';refine nc pins s σ H _ us Q I r ⟨p,vs,rfl,.inl q1,?_⟩;rw[w.length];exact q.here rfl hr
def LZ (g:Good G n sc N df X):fG X (.builtin "min") (oV X.K (Ev.cH .min)):=by
 intro pins s σ H xs us Q I r q;obtain⟨rr,h,as,d,h',hr,v1,e,q⟩:=q
 match as,e with
 |[.int i,.int j],e=>
  cases e;simp only[aG,RV]at v1;obtain⟨v,w,rfl,rfl,v',w',rfl,rfl,rfl⟩:=v1;exact Bj g.calm pins s σ H _ us Q I r ⟨i,j,rfl,q.here rfl hr⟩
def BX:m9 X "list.append" (oW X.K (Ev.dz .append)):=by
 intro pins s σ H x xs v us Q I rx rs q;obtain⟨r,h,a,as,d,h',hr,v1,v2,e,q⟩:=q;cases a with
 |ref m=>
  match as,e with
  |[b],e=>
   delta Ev.dz at e;dsimp only at e
   split at e
   .rename_i ds e1;split at e
    .rename_i hz;cases e;rw[jX]at hz;obtain⟨p,rfl,z⟩:=v1.shape;simp only[aG]at v2;obtain⟨y,w,rfl,v3,rfl⟩:=v2;obtain⟨p',g1,vs,g2,g3⟩:=hr.ob _ _ e1;rw[z]at g1;cases g1;refine tM pins s σ H _ _ v us Q I rx rs ⟨p,vs,y,rfl,rfl,g2,by rw[g3.length];exact hz,?_⟩;have f:=Fm.write (K:=X.K) (ws:=vs++[y]) g2 (aam z);exact q _ _ r rfl (hr.write e1 z g2 (g3.append (.cons v3 .nil))) f
    .cases e
   .cases e
  |[],e=>cases e
  |_ :: _ :: _,e=>cases e
 |_=>cases e
def BY:m9 X "list.extend" (oW X.K (Ev.dz .extend)):=by
 intro pins s σ H x xs v us Q I rx rs q;obtain⟨r,h,a,as,d,h',hr,v1,v2,e,q⟩:=q;cases a with
 |ref m=>
  match as,e with
  |[.ref k],e=>
   delta Ev.dz at e;dsimp only at e
   split at e
   .rename_i ds es e1 e2;split at e
    .rename_i hz;cases e;rw[jX]at hz;obtain⟨p,rfl,z⟩:=v1.shape;simp only[aG,RV]at v2;obtain⟨y,w,rfl,⟨p2,rfl,z2⟩,rfl⟩:=v2;obtain⟨p',g1,vs,g2,g3⟩:=hr.ob _ _ e1;rw[z]at g1;cases g1;obtain⟨p'',k1,ws,k2,k3⟩:=hr.ob _ _ e2;rw[z2]at k1;cases k1;refine Bs pins s σ H _ _ v us Q I rx rs ⟨p,p2,vs,ws,rfl,rfl,g2,k2,by rw[g3.length,k3.length];exact hz,?_⟩;have f:=Fm.write (K:=X.K) (ws:=vs++ws) g2 (aam z);exact q _ _ r rfl (hr.write e1 z g2 (g3.append k3)) f
    .cases e
   .cases e
 |_=>cases e
def L0:m9 X "list.pop" (oW X.K (Ev.dz .pop)):=by
 intro pins s σ H x xs v us Q I rx rs q;obtain⟨r,h,a,as,d,h',hr,v1,v2,e,q⟩:=q;cases a with
 |ref m=>
  match as,e with
  |[],e=>
   delta Ev.dz at e;dsimp only at e
   split at e
   .rename_i ds e1;split at e
    .rename_i y e2;cases e;obtain⟨p,rfl,z⟩:=v1.shape;simp only[aG]at v2;subst v2;obtain⟨p',g1,vs,g2,g3⟩:=hr.ob _ _ e1;rw[z]at g1;cases g1;obtain⟨vy,g4,g5⟩:=g3.get e2;refine KY pins s σ H _ _ v us Q I rx rs ⟨p,vs,vy,rfl,rfl,g2,by rw[g3.length];exact g4,?_⟩;have f:=Fm.write (K:=X.K) (ws:=vs.dropLast) g2 (aam z);have hd:aG X.K H r ds.dropLast vs.dropLast:=by
      rw[abq,abq,g3.length];exact g3.take _
     exact q _ _ r (g5.mono f) (hr.write e1 z g2 hd) f
    .cases e
   .cases e
  |_ :: _,e=>cases e
 |_=>cases e
theorem pO(sep:List Nat):∀ss:List (List Nat),Str.join (aB sep) (ss.map aB)=aB (Ev.bE sep ss)
 |[]=>rfl
 |[s]=>rfl
 |s :: t :: r=>by
  have ih:=pO sep (t :: r);show aB s++aB sep++Str.join (aB sep) ((t :: r).map aB)=_;rw[ih,rY,rY];rfl
def join_eq(sep:List Nat)(ss:List (List Nat)):Txt.join (aB sep) (ss.map aB)=aB (Ev.bE sep ss):=by
 rw[<-pO];exact PySem.StrLaws.glued_eq_join _ _
def Ir:m9 X "str.join" (oW X.K (Ev.dz .join)):=by
 intro pins s σ H x xs v us Q I rx rs q;obtain⟨r,h,a,as,d,h',hr,v1,v2,e,q⟩:=q;cases a with
 |str sep=>
  match as,e with
  |[.ref k],e=>
   delta Ev.dz at e;dsimp only at e
   split at e
   .rename_i ss e1;split at e
    .rename_i hz;cases e;simp only[NN]at e1;obtain⟨ds,e1,e2⟩:=e1;simp only[RV]at v1;obtain⟨rfl,hl⟩:=v1;obtain⟨t,rfl⟩:=rx;simp only[aG,RV]at v2;obtain⟨y,w,rfl,⟨p2,rfl,z2⟩,rfl⟩:=v2;obtain⟨u,rfl,ru⟩:=vals1 rs;cases ru;obtain⟨p',vs,z',q1,w⟩:=hr.read e1;rw[z2]at z';cases z';obtain⟨zs,pv,pl,_⟩:=I.list q1;obtain⟨g1,g2⟩:=yO e2 w pv;have hlen:((ss.map aB).map (·.length)).sum+(ss.map aB).length*(aB sep).length<=16777216:=by
      rw[aaD,aaw,bf];have:(λx:Str=>x.length) ∘ aB=λl:List Nat=>l.length:=funext λl=>bf l;rw[this];exact hz
     refine join_list pl.isList g1 hlen λt' k'=>?_;rw[join_eq];refine⟨.str _,H,I.tok _,⟨_,rfl⟩,q.here ⟨rfl,?_⟩ hr⟩;have hj:=PySem.StrLaws.join_length_le (aB sep) (ss.map aB);rw[pO,bf]at hj;have:sizeLine=16777216:=aa9;omega
    .cases e
   .cases e
 |_=>cases e
end
section
variable{X:Cx}{G:Tb}{n:Nat}{sc:Scope}{N:List Str}{df:Bool}{m:List Nat}{a b:E}{xa:Expr}{pos:Pos}
noncomputable def o6:TY->String
 |.int=>"int" |.bool=>"bool" |.str=>"str" |.tuple=>"tuple" |.list=>"list"
def Wn (K:PySem.W.Frag) (t:TY):PySem.W.kitOne K (.type "NoneType") (.type (o6 t))=some false/\PySem.W.kitOne K (.type "bool") (.type (o6 t))=some (Ev.dS [] (.bl true) t)/\PySem.W.kitOne K (.type "int") (.type (o6 t))=some (Ev.dS [] (.int 0) t)/\
  PySem.W.kitOne K (.type "str") (.type (o6 t))=some (Ev.dS [] (.str []) t)/\PySem.W.kitOne K (.type "tuple") (.type (o6 t))=some (Ev.dS [] (.tup []) t)/\PySem.W.kitOne K (.type "list") (.type (o6 t))=some (match t with|.list=>true|_=>false):=by
 cases t<;>refine⟨?_,?_,?_,?_,?_,?_⟩<;>kernel_rfl
noncomputable def LD(h:Hh)(i:Nat):Prop:=(Ev.bA h i).isSome=true
 \/False
def Iu{pins:List (Addr×Obj)}{σ:L2.St}{H:Hp}{s:Shared}{r:List Addr}{h:Hh}(I:Inv X pins σ H s)(hr:HR X.K H r h){d:D}{x:V}{u:Value}(v1:RV X.K H r d x)(rx:RelV x u)(hd:∀i,d=.ref i->LD h i)(t:TY){Q:Value->Shared->Prop}{E:Value->Shared->Prop}(q:∀tk,Q (.bool (Ev.dS h d t)) { s with toks:=tk }) :
  wpAny (model X.prog X.w) X.A (call (.builtin "isinstance") [u,.type (o6 t)]) Q E s:=by
 obtain⟨k0,k1,k2,k3,k4,k5⟩:=Wn X.K t;have s1:=v1.shape;cases d with
 |bz=>simp only[cK]at s1;subst s1;exact kj I rx .bz k0 (by simpa[Ev.dS]using q)
 |bl b=>simp only[cK]at s1;subst s1;exact kj I rx (.bl _) k1 (by cases t<;>simpa[Ev.dS]using q)
 |int b=>simp only[cK]at s1;subst s1;exact kj I rx (.int _) k2 (by cases t<;>simpa[Ev.dS]using q)
 |str b=>simp only[cK]at s1;subst s1;exact kj I rx (.str _) k3 (by cases t<;>simpa[Ev.dS]using q)
 |tup ds=>
  obtain⟨p,vs,rfl,z,w⟩:=s1;cases rx;obtain⟨us,_,pt,_⟩:=I.tuple z;obtain⟨o,h1,h2,_⟩:=pt;exact aav ac4 I.gK ⟨o,h1,h2⟩ k4 (λz=>nomatch z) (by cases t<;>simpa[Ev.dS]using q)
 |ref i=>
  obtain⟨p,rfl,z⟩:=s1;cases rx;rcases hd i rfl with hd|hd
  case inr=>
   exact hd.elim
  obtain⟨ds,e1⟩:=Option.isSome_iff_exists.mp hd;obtain⟨us,pl⟩:=vK I hr e1 z;obtain⟨o,h1,h2,_⟩:=pl.isList;exact aav acm I.gK ⟨o,h1,h2⟩ k5 (λz=>nomatch z) (by cases t<;>simpa[Ev.dS,e1]using q)
def qs {t:TY}{T:Str}{p q:Pos}(ha:JE G n sc N df m a xa) (hT:bootBuiltins T=some (.type (o6 t))) (h1:("isinstance" : Str)∈G.bl:=by decide +kernel) (h2:T∈G.bl:=by decide +kernel)
  (BZ:sc.names.lookup ("isinstance" : Str)=some .globalImplicit:=by rfl) (Ud:sc.names.lookup T=some .globalImplicit:=by rfl) (hn:T≠"__name__" :=by decide) (hd:(T==("__debug__" : Str))=false:=by decide)
  (hst:∀env:Env,starEach [xa,.Name T q] env=(false,eval xa env) :: starEach [.Name T q] env:=by intro _;rfl):JE G n sc N df m (.gx a [t]) (.Call (.Name "isinstance" p) [xa,.Name T q] [] pos):=λX g=>by
 have hty:PE X (.Name T q) (tC (.ty (o6 t))):=Hv (g.gl Ud) (g.bl T h2) hT rfl hn hd;have hc:fG X (.builtin "isinstance") (λxs H Q=>∃r h d x,HR X.K H r h/\RV X.K H r d x/\xs=[x,.ty (o6 t)]/\(∀i,d=.ref i->LD h i)/\Q (.bl (Ev.dS h d t)) H):=by
  intro pins s σ H xs us Q I rv q;obtain⟨r,h,d,x,hr,v1,rfl,hd,q⟩:=q;obtain⟨u,w,rfl,r1,r2⟩:=vals2 rv;cases r2;exact Iu I hr v1 r1 hd t λtk=>⟨.bl _,H,I.tok _,rfl,q⟩
 refine PE.of (vj hc (g.gl BZ) (g.bl _ h1) (by decide +kernel) (lG (ha X g) (lG hty qi) (hst _)) (by decide) (by decide) (hst _) rfl) λs H Q q=>?_;obtain⟨r,fr,h,d,h',sr,hr,e,q⟩:=q;simp only[Ev.ev]at e;obtain⟨x,h3,e1,e⟩:=Ev.ai e;cases e;refine⟨r,fr,h,x,_,sr,hr,e1,λv H1 r1 v1 hr1 f1=>?_⟩;refine⟨r1,_,x,v,hr1,v1,rfl,λi hi=>?_,?_⟩
 .subst hi;simp only[RV]at v1;obtain⟨p,_,z⟩:=v1;have hlt:i<h'.length:=by rw[<-hr1.len];exact(List.getElem?_eq_some_iff.mp z).1
  unfold LD Ev.bA;rw[Uy hlt];cases h'[i]with
  |lst ds=>exact .inl rfl
  |bU ds=>exact .inl rfl
 .have:=(q.later f1).here (v:=.bl (Ev.dS h' x t)) (by simp[RV]) hr1;exact this
end
section
variable{X:Cx}{G:Tb}{n:Nat}{sc:Scope}{N:List Str}{df:Bool}{m:List Nat}{a b c:E}{xa:Expr}{pos:Pos}
def B3(n:Nat):Builtin.Slice.sliceAdjust none none (-1) (n:Int)=((n:Int) - 1,-1):=by
 unfold Builtin.Slice.sliceAdjust;simp
def B4(n:Nat):Builtin.Slice.slicePlaces ((n:Int) - 1) (-1) (-1)=n:=by
 unfold Builtin.Slice.slicePlaces;have h1:¬ ((-1:Int) > 0):=by omega
 simp only[h1,aaL];have h2:(- -1:Int)=1:=by omega
 rw[h2];simp only[Int.ediv_one];split<;>omega
def qt{prog:Program}{w:World}{A:Around}{E:Value->Shared->Prop}{s:Shared}{sl:Addr}{vk:Value}{n:Nat}{Q:Int×Int×Nat->Shared->Prop}(hs:s.heap.IsSliceOf sl .none .none vk)(pk:IsPart vk (some (-1)))
  (h:Q ((n:Int) - 1,-1,n) s):wpAny (model prog w) A (Builtin.Slice.sliceApplied (.ref sl) (pure (n:Int))) Q E s:=by
 obtain⟨os,hos,hcs,hds⟩:=id hs;unfold Builtin.Slice.sliceApplied Builtin.Slice.sliceFields;refine gF (gF (aaN hos hds (x:=.none) rfl (gF (aaN hos hds (x:=.none) rfl (gF (aaN hos hds (x:=vk) rfl (uq ?_)))))));refine gF (HT.iJ pk ?_);show wpAny _ _ (if ((-1:Int)==0)=true then _ else _) _ _ s;rw[Yu (by decide)];refine gF (HT.iJ .none (gF (HT.iJ .none (gF (uq ?_)))));show wpAny _ _ (match Builtin.Slice.sliceAdjust none none (-1) (n:Int)with | (lo,hi)=>pure (lo,(-1:Int),Builtin.Slice.slicePlaces lo hi (-1))) _ _ s;rw[B3 n];show wpAny _ _ (pure ((n:Int) - 1,(-1:Int),Builtin.Slice.slicePlaces ((n:Int) - 1) (-1) (-1))) _ _ s;rw[B4];exact uq h
def Iv(xs:Array Value):((List.range xs.size).filterMap λ(m:Nat)=>xs[((xs.size:Int) - 1+(m:Int)*(-1)).toNat]?).toArray=xs.toList.reverse.toArray:=by
 have e:(List.range xs.size).filterMap (λ(m:Nat)=>xs[((xs.size:Int) - 1+(m:Int)*(-1)).toNat]?)=((List.range xs.size).map (λk=>xs.size - 1 - k)).filterMap (xs[·]?):=by
  rw[ac6];have go:∀l:List Nat,(∀k∈l,k<xs.size)->l.filterMap (λ(m:Nat)=>xs[((xs.size:Int) - 1+(m:Int)*(-1)).toNat]?)=l.filterMap ((xs[·]?) ∘ λk=>xs.size - 1 - k):=by
   intro l hl;induction l with
   |nil=>rfl
   |cons k l ih=>
    have hk:=hl k (by simp);have e2:((xs.size:Int) - 1+(k:Int)*(-1)).toNat=xs.size - 1 - k:=by omega
    rw[aaJ,aaJ,e2,ih λk' h'=>hl k' (by simp[h'])];rfl
  exact go _ λk hk=>List.mem_range.mp hk
 rw[e,PySem.W.krv_range,List.filterMap_reverse,PySem.W.krv_all]
def Ae{prog:Program}{w:World}{A:Around}{E:Value->Shared->Prop}{s:Shared}{t sl:Addr}{items:Array Value}{vk:Value}{Q:Value->Shared->Prop}(ht:IsTup s.heap t items)(hs:s.heap.IsSliceOf sl .none .none vk)(pk:IsPart vk (some (-1)))
  (h:Q (.ref s.heap.objs.size) { s with heap:=s.heap.push { cls:=.type "tuple",data:=.seq items.toList.reverse.toArray }})
  (hsz:items.size<=sizeLine):wpAny (model prog w) A (getItem (.ref t) (.ref sl)) Q E s:=by
 have jC:sizeOk (.seq items.toList.reverse.toArray):=by
  show items.toList.reverse.toArray.size<=sizeLine;rw[G3,acZ,abg];exact hsz
 obtain⟨os,hos,hcs,hds⟩:=id hs;have Bp:s.TypeIs (.ref sl) "slice" :=⟨os,hos,hcs⟩
 unfold getItem;try with_reducible refine acg ?_
 first|refine gF (uq ?_)|skip
 refine gF (ack ht.typeIs (by decide) ?_);refine gF (aaZ (name:=Str.ofString "__getitem__") ht.typeIs aaA
  (aaU aaA ht.typeIs ab5 ?_ (ab9 _ _)))
 show wpAny _ _ (Builtin.Tuple.tupleItemsOf (.ref t) >>= _) _ _ s;refine gF (tupleItemsOf_ ht ?_);refine gF (abX Bp ?_);rw[JP (by decide)];refine gF (qt hs pk ?_);have hno:¬ (((items.size:Int) - 1==0&&(-1:Int)==1&&items.size==items.size)=true):=by simp
 show wpAny _ _ (if ((items.size:Int) - 1==0&&(-1:Int)==1&&items.size==items.size)=true then _ else _) _ _ s;rw[Yu hno,Iv];first
  |exact gF (m:=Builtin.Tuple.tupleExact _) (aar (uq ⟨_,rfl,uq h⟩) jC)
  |exact gF (m:=Builtin.Tuple.tupleExact _) (aar (gF (uq (uq ⟨_,rfl,uq h⟩))) jC)
  |exact gF (gF (m:=Builtin.Tuple.tupleExact _) (aar (uq (uq ⟨_,rfl,uq h⟩)) jC))
  |exact gF (gF (m:=Builtin.Tuple.tupleExact _) (aar (uq ⟨_,rfl,uq h⟩) jC))
theorem Vals.reverse{vs:List V}{us:List Value}(w:Vals vs us):Vals vs.reverse us.reverse:=by
 induction w with
 |nil=>exact .nil
 |cons a _ ih=>rw[aak,aak];exact ih.append (.cons a .nil)
def QO{p1 p2 p3:Pos}{j}(ha:JE G n sc N df m a xa):JE G n sc N df m (.rv a) (.Subscript xa (.Slice none none (some (.UnaryOp .USub (.Constant (.int 1) j p1) p2)) p3) pos):=λX g=>by
 intro pins s σ H Q I q;obtain⟨r,fr,h,d,h',sr,hr,e,q⟩:=q;simp only[Ev.ev]at e;obtain⟨x,h1,e1,e⟩:=Ev.ai e;refine Subscript_ (bF (ha X g pins s σ H _ I ⟨r,fr,h,x,h1,sr,hr,e1,λv H1 r1 v1 hr1 f1=>(show(λ(v:V) (H1:Hp)=>∃r1,RV X.K H1 r1 x v/\HR X.K H1 r1 h1/\Fm X.K r r1 H H1) v H1 from ⟨r1,v1,hr1,f1⟩)⟩) λv s1 ⟨x1,H1,I1,rx,r1,v1,hr1,f1⟩=>?_);refine wpAny_Slice ?_;rw[evalPart_none];refine uq (uq ?_);have hm1:PE X (.UnaryOp .USub (.Constant (.int 1) j p1) p2) (tJ X.K m (Ev.run G.F G.w n) (.neg (.c (.int 1)))):=Bx Bw X g;refine bF (yr hm1 pins s1 σ H1 (λo H2=>o=some (-1)/\∃r2,RV X.K H2 r2 x x1/\HR X.K H2 r2 h1/\Fm X.K r r2 H H2) I1 ⟨r1,fr,h1,.int (-1),h1,sr.mono f1,hr1,by simp[Ev.ev],λv' H2 r2 v2 hr2 f2=>⟨-1,v2,rfl,r2,v1.mono f2,hr2,f1.trans f2⟩⟩) λvk s2 ⟨o,H2,I2,pk,q2⟩=>?_;obtain⟨rfl,r2,v2,hr2,f2⟩:=q2;have I4:Inv X pins σ H2 { s2 with heap:=s2.heap.push { cls:=.type "slice",data:=.fields #[.none,.none,vk]}}:=I2.kept (t':=s2.toks) λb ob q=>FJ _ q;have hS:({ s2 with heap:=s2.heap.push { cls:=.type "slice",data:=.fields #[.none,.none,vk]}}:Shared).heap.IsSliceOf s2.heap.objs.size .none .none vk:=Heap.IsSliceOf.new s2.heap .none .none vk;have key:∃T id,typeLookup (.type T) "__getitem__" = pure (some (.builtin id))/\({ s2 with heap:=s2.heap.push { cls:=.type "slice",data:=.fields #[.none,.none,vk]}}:Shared).TypeIs v T/\wpAny (model X.prog X.w) X.A (getItem v (.ref s2.heap.objs.size)) (EP X pins σ Q) X.xe { s2 with heap:=s2.heap.push { cls:=.type "slice",data:=.fields #[.none,.none,vk]}}:=by
  revert I4 hS
  generalize ({ s2 with heap:=s2.heap.push { cls:=.type "slice",data:=.fields #[.none,.none,vk]}}:Shared)=s3
  intro I4 hS;cases x with
  |tup ds=>
   cases e;obtain⟨p,vs,rfl,z,w⟩:=v2.shape;cases rx;obtain⟨us,pv,pt,hz⟩:=I4.tuple z;refine⟨"tuple",_,PyProof.Rows.slot_tuple_getitem.lookup,pt.typeIs,?_⟩;refine Ae pt hS pk ?_ (by rw[G3,<-pv.length];exact hz);refine⟨.ref s3.heap.objs.size,_,I4.laid (t':=s3.toks) (o:=.tup vs.reverse) (λb ob q=>FJ _ q) (WE _) ?_,rfl,(q.later f2).tup w.reverse hr2 (I4.hok.fresh (WE _))⟩;exact⟨by simpa using hz,_,Vals.reverse pv,⟨_,aae _ rfl,rfl,0,rfl⟩⟩
  |ref i=>
   simp only[Ev.lJ]at e;split at e
   .rename_i ds e2;obtain⟨p,rfl,z⟩:=v2.shape;obtain⟨p',vs,z',q1,w⟩:=hr2.read e2;rw[z]at z';cases z';cases rx;obtain⟨us,pv,pt,hz⟩:=I4.list q1;obtain⟨hz2,q2⟩:=(q.later f2).lst e w.reverse hr2;refine⟨"list",_,slot_list_getitem.lookup,pt.isList.typeIs,?_⟩;refine acE pt.isList hS .none .none pk (by simp) ?_ (by rw[G3,<-pv.length];exact hz);rw[PySem.W.krv_pick];refine⟨.ref s3.heap.objs.size,_,I4.laid (t':=s3.toks) (o:=.lst vs.reverse) (λb ob q=>FJ _ q) (WE _) ?_,rfl,q2 _ (I4.hok.fresh (WE _))⟩;exact⟨by simpa using hz,_,0,Vals.reverse pv,aae _ rfl⟩
   .cases e
  |_=>cases e
 obtain⟨T,id,hT,ht,hg⟩:=key;exact tail_any (ops:=[v,.ref s2.heap.objs.size]) ht hT hg (by with_unfolding_all rfl)
end
section
variable{G:Tb}{n:Nat}{sc:Scope}{N:List Str}{df:Bool}{m:List Nat}{a c:E}{xa:Expr}{pos:Pos}
def D4 (g:Good G n sc N df X):fG X (.type "tuple") (λxs H Q=>∃r h d x d' h',HR X.K H r h/\RV X.K H r d x/\xs=[x]/\Ev.rP d h=.ok d' h'/\Res X.K r H h' d' Q):=by
 intro pins s σ H xs us Q I rv q;obtain⟨r,h,d,x,d',h',hr,v1,rfl,e,q⟩:=q;cases d with
 |tup ds=>
  cases e;have v2:=v1;obtain⟨p,vs,rfl,z,w⟩:=v1.shape;exact mV pins s σ H _ us Q I rv ⟨p,vs,rfl,.inr ⟨z,q.here v2 hr⟩⟩
 |ref i=>
  simp only[Ev.rP]at e;split at e
  .rename_i ds e1;split at e
   .cases e;obtain⟨p,rfl,z⟩:=v1.shape;obtain⟨p',vs,z',q1,w⟩:=hr.read e1;rw[z]at z';cases z';exact mV pins s σ H _ us Q I rv ⟨p,vs,rfl,.inl ⟨q1,λl hl=>q.tup w hr hl⟩⟩
   .cases e
  .cases e
 |_=>cases e
def L1 {p:Pos}(ha:JE G n sc N df m a xa) (h1:("tuple" : Str)∈G.bl:=by decide +kernel) (BZ:sc.names.lookup ("tuple" : Str)=some .globalImplicit:=by rfl)
  (hst:∀env:Env,starEach [xa] env=[(false,eval xa env)]:=by intro _;rfl):JE G n sc N df m (.jA a) (.Call (.Name "tuple" p) [xa] [] pos):=λX g=>by
 refine PE.of (tL (D4 g) (g.gl BZ) (g.bl _ h1) (by decide +kernel) (lG (ha X g) qi (hst _)) (by decide) (by decide) (hst _) rfl) λs H Q q=>?_;obtain⟨r,fr,h,d,h',sr,hr,e,q⟩:=q;simp only[Ev.ev]at e;obtain⟨x,h3,e1,e⟩:=Ev.ai e;refine⟨r,fr,h,x,_,sr,hr,e1,λv H1 r1 v1 hr1 f1=>?_⟩;exact⟨r1,h3,x,v,d,h',hr1,v1,rfl,e,q.later f1⟩
def L3{c:Nat}{st:Stmt}:JS G n sc N df m (.eS c) st:=λX g=>PS.of Du λQ s H q=>by
 obtain⟨r,fr,h,fl,aj,h',sr,hr,e,q⟩:=q;simp only[Ev.ex]at e;cases e
end
noncomputable def rZ:List (D×D)->Bool
 |[]=>true
 | (.str k,.str v) :: r=>decide (v.length<=1000)&&rZ r
 |_=>false
theorem vP{s:List Nat}{r:D}:∀{kvs:List (D×D)},rZ kvs=true->Ev.fJ (.str s) kvs=some r->∃t,r=.str t/\t.length<=1000/\PySem.Spec.lookup (.str (aB s)) (tabOf kvs)=some (.str (aB t))
 |[],_,e=>by simp[Ev.fJ]at e
 | (k,v) :: l,ha,e=>by
  cases k<;>cases v<;>simp only[rZ,aai,xg,aay]at ha
  rename_i k v;simp only[Ev.fJ]at e;rw[show Ev.gS [] 1 (.str k) (.str s)=some (k==s)from rfl]at e;simp only[tabOf,PySem.Spec.lookup];by_cases h:k=s
  .subst h;simp at e;subst e;refine⟨v,rfl,ha.1,?_⟩;have:PySem.Spec.same (.str (aB k)) (.str (aB k))=true:=by rw[acd];simp
   rw[this];rfl
  .have hb:(k==s)=false:=by simpa using h
   rw[hb]at e;simp only at e;obtain⟨t,h1,h2,h3⟩:=vP ha.2 e;refine⟨t,h1,h2,?_⟩;have:PySem.Spec.same (.str (aB k)) (.str (aB s))=false:=by
    rw[acd];simp;exact λz=>h (lK z)
   rw[this];exact h3
theorem vQ{y r:D}:∀{kvs:List (D×D)},rZ kvs=true->Ev.fJ y kvs=some r->∃s,y=.str s
 |[],_,e=>by simp[Ev.fJ]at e
 | (k,v) :: l,ha,e=>by
  cases k<;>cases v<;>simp only[rZ,aai,xg,aay]at ha
  cases y with
  |str s=>exact⟨s,rfl⟩
  |ref a=>cases e
  |_=>first|exact vQ ha.2 e|cases e
section
variable{G:Tb}{n:Nat}{sc:Scope}{N:List Str}{df:Bool}{m:List Nat}{a:E}{xa:Expr}{pos:Pos}
def yP {x:Str}{kvs:List (D×D)}{p:Pos}(hm:(x,kvs)∈G.dk) (ha:JE G n sc N df m a xa) (hk:rZ kvs=true:=by decide) (hg:sc.names.lookup x=some .globalImplicit:=by rfl) (hd:(x==("__debug__" : Str))=false:=by decide) (hs:rN xa:=by intro _ _;rfl) :
  JE G n sc N df m (.gP kvs a) (.Subscript (.Name x p) xa pos):=λX g=>by
 intro pins s σ H Q I q;obtain⟨r,fr,h,d,h',sr,hr,e,q⟩:=q;simp only[Ev.ev]at e;replace e:=Ev.ai e;obtain⟨y,h1,e1,e⟩:=e;replace e:=Ev.aI e;obtain⟨e,y0⟩:=e;subst y0;obtain⟨ad,hmg,htab⟩:=g.dk x kvs hm;refine Subscript_ (zG (rK (v:=.ref ad) (g.gl hg) hmg rfl hd) (ha X g) I (R:=λx' y' H2=>x'=.ref ad/\∃r1,RV X.K H2 r1 y y'/\HR X.K H2 r1 h'/\Fm X.K r r1 H H2) ?_ λv u s2 x' y' H2 I2 rx ry z=>?_)
 .refine⟨r,fr,h,y,h',sr,hr,e1,λv H1 r1 v1 hr1 f1=>⟨rfl,r1,v1,hr1,f1⟩⟩
 .obtain⟨rfl,r1,v1,hr1,f1⟩:=z;obtain rfl:v=Value.ref ad:=rx;have hy:∃sx,y=.str sx:=vQ hk e;obtain⟨sx,rfl⟩:=hy;obtain⟨t,rfl,ht,hl⟩:=vP hk e;simp only[RV]at v1;obtain⟨rfl,_⟩:=v1;obtain⟨tk,rfl⟩:=ry;refine item_strTab (htab s2.heap I2.gK) hl (λv hv=>?_) (hs _ _);obtain⟨t2,rfl⟩:=PyProof.V.Flat.str_inv hv;exact⟨.str (aB t),H2,I2.tok _,⟨t2,rfl⟩,q _ H2 r1 ⟨rfl,aaa ht (by rw[aa9];decide)⟩ hr1 f1⟩
end
end Sm
namespace Rv
open PySem PyProof.Rows
def nq:Manifest.owners.lookup (String.ofList ['d','e','s','r','e','v','e','r'].reverse)=some Manifest.sig_reversed:=by kernel_rfl
def slot_next:Slot "reversed" "__next__" "reversed.__next__" :=
 .of (owner:="reversed") (n:="__next__") (by rw[abi,aaV];kernel_rfl) (by decide +kernel) (by decide +kernel) (by decide +kernel)
  (by first|exact .inl (by decide +kernel)|exact .inr (by decide +kernel)) (by rw[abn];kernel_rfl)
def entry_next:entryFor table "reversed.__next__" = some Builtin.«reversed.__next__»:=entryFor_of_tree (by kernel_rfl)
def args_next (a:Value):argsOk "reversed.__next__" ⟨[a],[]⟩:=by
 unfold argsOk;rw[signature?_of (id:="reversed.__next__") (n:=['_','_','t','x','e','n','_','_']) (o:=['d','e','s','r','e','v','e','r']) (by kernel_rfl) nq];kernel_rfl
def uc:Slot "reversed" "__iter__" "reversed.__iter__" :=
 .of (owner:="reversed") (n:="__iter__") (by rw[abi,aaV];kernel_rfl) (by decide +kernel) (by decide +kernel) (by decide +kernel)
  (by first|exact .inl (by decide +kernel)|exact .inr (by decide +kernel)) (by rw[abn];kernel_rfl)
def B5 (a:Value):argsOk "reversed.__iter__" ⟨[a],[]⟩:=by
 unfold argsOk;rw[signature?_of (id:="reversed.__iter__") (n:=['_','_','r','e','t','i','_','_']) (o:=['d','e','s','r','e','v','e','r']) (by kernel_rfl) nq];kernel_rfl
def Af:entryFor table "reversed.__iter__" = some Builtin.«dict_keyiterator.__iter__»:=
 entryFor_alias (id':="dict_keyiterator.__iter__") (by kernel_rfl) (by first|rfl|decide +kernel | (unfold String.splitOn;simp +decide [String.splitOnAux])) (by decide +kernel) (by kernel_rfl)
def nu:Slot "reversed" "__length_hint__" "reversed.__length_hint__" :=
 .of (owner:="reversed") (n:="__length_hint__") (by rw[abi,aaV];kernel_rfl) (by decide +kernel) (by decide +kernel) (by decide +kernel)
  (by first|exact .inl (by decide +kernel)|exact .inr (by decide +kernel)) (by rw[abn];kernel_rfl)
def Ag:entryFor table "reversed.__length_hint__" = some Builtin.«reversed.__length_hint__»:=entryFor_of_tree (by kernel_rfl)
def B6 (a:Value):argsOk "reversed.__length_hint__" ⟨[a],[]⟩:=by
 unfold argsOk;rw[signature?_of (id:="reversed.__length_hint__") (n:=['_','_','t','n','i','h','_','h','t','g','n','e','l','_','_']) (o:=['d','e','s','r','e','v','e','r']) (by kernel_rfl) nq];kernel_rfl
def L4:typeLookup (.type "reversed") "__len__" = pure none:=by rw[abi,aaV];kernel_rfl
def L5:typeLookup (.type "tuple") "__reversed__" = pure none:=by rw[abi,aaV];kernel_rfl
section
variable{prog:Program}{w:World}{A:Around}{E:Value->Shared->Prop}{s:Shared}
def B7:Slot "reversed" "__init__" "object.__init__" :=
 .of (owner:="object") (n:="__init__") (by rw[abi,aaV];kernel_rfl) (by decide +kernel) (by decide +kernel) (by decide +kernel)
  (by first|exact .inl (by decide +kernel)|exact .inr (by decide +kernel)) (by rw[abn];kernel_rfl)
def called:TypeCalled "reversed" "reversed.__new__" "object.__init__" :=
 ⟨by decide +kernel,by decide +kernel,⟨_,_,F.mro_reversed⟩,F.made_reversed,by decide +kernel,F.sub_reversed_self,B7⟩
noncomputable def gQ (h:Heap) (a t:Addr) (i:Int):Prop:=∃o,h.get? a=some o/\o.cls=.type "reversed" /\o.data=.fields #[.ref t,rawInt i]
def gQ.typeIs {a l:Addr}{i:Int}(x:gQ s.heap a l i):s.TypeIs (.ref a) "reversed" :=let ⟨o,ho,hc,_⟩:=x;⟨o,ho,hc⟩
def gQ.at{h h':Heap}{a l:Addr}{i:Int}(x:gQ h a l i)(e:∀o,h.get? a=some o->h'.get? a=some o):gQ h' a l i:=let ⟨o,ho,r⟩:=x;⟨o,e _ ho,r⟩
noncomputable def om (l:Addr) (i:Int):Obj:={ cls:=.type "reversed",data:=.fields #[.ref l,rawInt i]}
def oq{h h':Heap}{t:Addr}{items:Array Value}(x:IsTup h t items)(e:∀o,h.get? t=some o->h'.get? t=some o):IsTup h' t items:=let ⟨o,ho,r⟩:=x;⟨o,e _ ho,r⟩
def D5{t:Addr}{items:Array Value}{Q₁:Value->Shared->Prop}(ht:IsTup s.heap t items)(hfit:(items.size:Int)<2 ^ 63)
  (h:Q₁ (.ref s.heap.objs.size) { s with heap:=s.heap.push (om t ((items.size:Int) - 1)),toks:=s.toks+1+1 }) :
  codeAny (model prog w) A (.call (.builtin "reversed.__new__") ⟨[.type "reversed",.ref t],[]⟩) (wants Q₁ E) s:=by
 refine codeAny_of_tree ?_;show wpAny _ A.in1 (do checkBuiltinCall "reversed.__new__" ⟨[.type "reversed",.ref t],[]⟩;again (.builtin "reversed.__new__" ⟨[.type "reversed",.ref t],[]⟩)) _ _ s;refine gF (aa8 (F.newCall_reversed_1 _) (uq ⟨plainId_quiet F.plain_reversed_new _,codeAny_builtin F.entry_reversed_new ?_⟩));rw[Around.under_plainId F.plain_reversed_new _];unfold Builtin.«reversed.__new__»;refine gF (aa8 (newClass_reversed _) ?_);try dsimp only
 refine gF (aa8 (a:=()) (by first|rfl|kernel_rfl) ?_);refine gF (aa8 (a:=()) (by first|rfl|kernel_rfl) ?_);try dsimp only
 refine gF (abv ht.typeIs L5 ?_);try dsimp only
 refine gF ?_
 wp_delta
 refine gF (acy (T:="tuple") (b:=false) ht.typeIs (by rw[abn];kernel_rfl) ?_);refine aaK (λhab=>absurd hab (by decide)) (λ_=>?_);refine gF (abv ht.typeIs slot_tuple_getitem.lookup ?_);try dsimp only
 refine aaK (λ_=>?_) (λhab=>absurd (by decide) hab);refine uq ?_;refine aaK (λhab=>absurd hab (by decide)) (λ_=>?_);refine gF (len_tuple ht hfit ?_);refine gF (m:=asInt? _) (uq ?_);try dsimp only
 refine gF (m:=Builtin.SmallTypes.newRecord _ _) ?_;unfold Builtin.SmallTypes.newRecord;refine aar ?_ (by size_fits);exact uq h
def D6{t:Addr}{items:Array Value}{Q:Value->Shared->Prop}(ht:IsTup s.heap t items)(hfit:(items.size:Int)<2 ^ 63)
  (h:Q (.ref s.heap.objs.size) { s with heap:=s.heap.push (om t ((items.size:Int) - 1)),toks:=s.toks+1+1 }):wpAny (model prog w) A (call (.type "reversed") [.ref t]) Q E s:=by
 refine callType_codes (Q₁:=λobj s₁=>obj=.ref s.heap.objs.size/\s₁={ s with heap:=s.heap.push (om t ((items.size:Int) - 1)),toks:=s.toks+1+1 }) called (F.typeCall_reversed_1 _) F.entry_object_init (D5 ht hfit ⟨rfl,rfl⟩) ?_;rintro obj s₁ ⟨rfl,rfl⟩;have hT:({ s with heap:=s.heap.push (om t ((items.size:Int) - 1)),toks:=s.toks+1+1 }:Shared).TypeIs (.ref s.heap.objs.size) "reversed" :=⟨_,aae _ rfl,rfl⟩
 refine⟨hT,F.args_object_init_2 _ _,?_⟩;exact object_init_meets (self:=Value.ref s.heap.objs.size) (rest:=[Value.ref t]) called.init.lookup called.made (by decide) prog w A.in1 _ _ ⟨hT,rfl,h⟩
def next_item{it t:Addr}{i:Nat}{items:Array Value}{x:Value}{Q:Option Value->Shared->Prop}(hit:gQ s.heap it t (i:Int))(ht:IsTup s.heap t items)(hx:items[i]?=some x)(hfit:(items.size:Int)<2 ^ 62)
  (hQ:∀h' tk,gQ h' it t ((i:Int) - 1)->Heap.SameBut it s.heap h'->Q (some x) { s with heap:=h',toks:=tk }):wpAny (model prog w) A (pyNext (.ref it)) Q E s:=by
 obtain⟨o,ho,hc,hd⟩:=id hit;have hi:i<items.size:=(Array.getElem?_eq_some_iff.mp hx).1;unfold pyNext;refine gF (ach (aaZ (name:=Str.ofString "__next__") hit.typeIs slot_next
  (aaU slot_next hit.typeIs entry_next ?_ (args_next _))))
 unfold Builtin.«reversed.__next__»;refine gF (aa8 (a:=(Value.ref it,[])) rfl ?_);try dsimp only
 refine gF (aaN ho hd (x:=.ref t) rfl ?_);refine gF (aaN ho hd (x:=rawInt (i:Int)) rfl ?_);show wpAny _ _ (if (i:Int)<0 then _ else _) _ _ s;rw[Yu (by omega)];try dsimp only
 refine gF (abv ht.typeIs slot_tuple_getitem.lookup ?_);try dsimp only
 refine aaK (λhab=>absurd hab (by decide)) (λ_=>?_);refine gF (wpAny_mkInt ?_);refine gF (ach (getItem_tuple (j:=i) ht (by omega) (by omega) (by unfold seqIndex?;simp;omega) hx ?_));try dsimp only
 refine gF (aaN ho hd (x:=rawInt (i:Int)) rfl ?_);show wpAny _ _ (setField (.ref it) 1 (rawInt ((i:Int) - 1)) >>= _) _ _ _;refine gF (acM ho hd (by simp) ?_);refine uq ⟨x,rfl,uq (hQ _ _ ?_ (ab7 ..))⟩;exact⟨_,aa7 _ ho (Obj.isFreed_of_fields (abA hd _)),(Obj.cls_mapFields ..).trans hc,by
  rw[abA hd];simp⟩
def next_end{it t:Addr}{Q:Option Value->Shared->Prop}(hh:A.handled=none)(hit:gQ s.heap it t (-1))
  (hQ:∀h',Heap.ExtBut it s.heap h'->Q none { s with heap:=h' }):wpAny (model prog w) A (pyNext (.ref it)) Q E s:=by
 obtain⟨o,ho,hc,hd⟩:=id hit;unfold pyNext;refine gF (ach (aaZ (name:=Str.ofString "__next__") hit.typeIs slot_next
  (aaU slot_next hit.typeIs entry_next ?_ (args_next _))))
 unfold Builtin.«reversed.__next__»;refine gF (aa8 (a:=(Value.ref it,[])) rfl ?_);try dsimp only
 refine gF (aaN ho hd (x:=.ref t) rfl ?_);refine gF (aaN ho hd (x:=rawInt (-1)) rfl ?_);show wpAny _ _ (if (-1:Int)<0 then _ else _) _ _ s;rw[JP (by decide)];refine gF (acq ?_);refine gF ?_
 wp_delta
 refine gF (acM ho hd (by simp) ?_);have ho2:=aa7 (Obj.mapFields λx=>x.setIfInBounds 1 (rawInt (-1))) ho (Obj.isFreed_of_fields (abA hd _));refine acM ho2 (abA hd _) (by simp) ?_;refine gF ?_;unfold Builtin.SmallTypes.stopIteration;first
 |show wpAny _ _ (newExc (.type "StopIteration") [] >>= _) _ _ _
 | (refine gF ?_;show wpAny _ _ (newExc (.type "StopIteration") [] >>= _) _ _ _)
 refine gF ?_;simp only[newExc,newTuple];refine gF (aar ?_ (by size_fits));refine gF (m:=firstArgMember _ _) (aa8 (a:=Value.none) (by first|rfl | (simp only[firstArgMember];rfl)) ?_);refine aar ?_ (by size_fits);simp only[raiseNew];refine gF (wpAny_handled ?_);first|rw[show A.in1.handled=none from hh]|rw[hh]
 refine gF (uq (wpAny_throw ?_));refine gF (acy (T:="StopIteration") (b:=true) ⟨_,aae _ rfl,rfl⟩ isSubtype_stop ?_);exact uq (hQ _ ((((ab7 ..).extBut.trans (ab7 ..).extBut).push _).push _))
def vR{it t:Addr}{i:Int}{Q:Value->Shared->Prop}(hit:gQ s.heap it t i)(h:Q (.ref it) s):wpAny (model prog w) A (pyIter (.ref it)) Q E s:=by
 refine wpAny_pyIter_slot hit.typeIs uc (aaU uc hit.typeIs Af ?_ (B5 _));show wpAny _ _ (ret (.ref it)) _ _ s;exact uq ⟨_,rfl,"reversed",_,hit.typeIs,slot_next.lookup,h⟩
def D7{it t:Addr}{items:Array Value}{Q:Bool->Shared->Prop}(hit:gQ s.heap it t ((items.size:Int) - 1))(ht:IsTup s.heap t items)(hfit:items.size<=sizeLine)
  (h:∀tk,Q ((items.size:Int) != 0) { s with toks:=tk }):wpAny (model prog w) A (Builtin.List.listLengthHint (.ref it)) Q E s:=by
 obtain⟨o,ho,hc,hd⟩:=id hit;unfold Builtin.List.listLengthHint;refine gF (abv hit.typeIs L4 ?_);refine aaK (λhab=>absurd hab (by decide +kernel)) (λ_=>?_);refine aaK (λhab=>absurd hab (by decide)) (λ_=>?_);refine gF (abv hit.typeIs nu.lookup ?_);generalize hid:("reversed.__length_hint__" : String)=XZ
 dsimp only;rw[show splitId XZ=some ("reversed","__length_hint__")from by subst hid;decide +kernel];subst hid;dsimp only;refine gF (acy (T:="reversed") (b:=true) hit.typeIs (by rw[abn];kernel_rfl) ?_);refine aaK (λhab=>absurd hab (by decide)) (λ_=>?_);refine aaK (λhab=>absurd hab (by decide +kernel)) (λ_=>?_);refine gF (acq ?_);refine gF (aa8 (nu.bind _) ?_);refine gF (ach (aaU nu hit.typeIs Ag ?_ (B6 _)));unfold Builtin.«reversed.__length_hint__»;refine gF (aa8 (a:=Value.ref it) rfl ?_);refine gF (aaN ho hd (x:=.ref t) rfl ?_);refine aaK (λhab=>absurd hab aaM) (λ_=>?_);have hf2:(items.size:Int)<2 ^ 63:=by rw[aa9]at hfit;omega
 refine gF (len_tuple ht hf2 ?_);refine gF (m:=asInt? _) (uq ?_);refine gF (aaN ho hd (x:=rawInt ((items.size:Int) - 1)) rfl ?_);show wpAny _ _ (if (items.size:Int)<(items.size:Int) - 1+1 then _ else _) _ _ _;rw[Yu (by omega)];have e1:(items.size:Int) - 1+1=(items.size:Int):=by omega
 rw[e1];unfold retInt;refine gF (wpAny_mkInt (uq ⟨_,rfl,?_⟩));generalize s.toks+1+1=tk
 show wpAny _ _ (asInt? (Value.int (items.size:Int) tk) >>= _) _ _ _;refine gF ?_;refine uq (a:=some (items.size:Int)) ?_;have X0:Builtin.List.listFitsIndex (items.size:Int)=true:=by unfold Builtin.List.listFitsIndex;rw[aaj (by omega),aaj (by omega)];rfl
 show wpAny _ _ (if (!Builtin.List.listFitsIndex (items.size:Int))=true then _ else _) _ _ _;rw[Yu (by rw[X0];decide)];show wpAny _ _ (if (items.size:Int)<0 then _ else _) _ _ _;rw[Yu (by omega)];have X3:Builtin.List.listTooLong ((items.size:Int).toNat)=false:=by unfold Builtin.List.listTooLong;rw[abK];exact aac (by omega)
 show wpAny _ _ (if Builtin.List.listTooLong ((items.size:Int).toNat)=true then _ else _) _ _ _;rw[Yu (by rw[X3];decide)];exact uq (h _)
def _root_.PySem.Walks.L6(hh:A.handled=none)(I t:Addr)(hne:t≠I)(items:Array Value)(hfit:(items.size:Int)<2 ^ 62) :
  Walks prog w A I [I,t] [I] items.size (λi v=>items[items.size - 1 - i]?=some v) (λi h=>i<=items.size/\gQ h I t ((items.size:Int) - 1 - (i:Int))/\IsTup h t items) where
 sub:=λb hb=>by simp at hb;simp[hb]
 frame:=λ_ _ _ x hk=>⟨x.1,x.2.1.at λo e=>hk I (by simp) o e,oq x.2.2 λo e=>hk t (by simp) o e⟩
 item:=λi s Q E hi x hQ=>by
  have e:(items.size:Int) - 1 - (i:Int)=((items.size - 1 - i:Nat):Int):=by omega
  have hit:=x.2.1;rw[e]at hit;have hx:items[items.size - 1 - i]?=some (items[items.size - 1 - i]'(by omega)):=acw (by omega);refine next_item hit x.2.2 hx hfit λh' tk L7 hs'=>?_;have e2:((items.size - 1 - i:Nat):Int) - 1=(items.size:Int) - 1 - ((i+1:Nat):Int):=by omega
  rw[e2]at L7;exact hQ _ h' tk hx ⟨hi,L7,oq x.2.2 λo eo=>(hs'.2 t hne).trans eo⟩ λb o hb eo=>hs'.extBut b o (λh=>hb (by simp[h])) eo
 done:=λs Q E x hQ=>by
  have e:(items.size:Int) - 1 - (items.size:Int) = -1:=by omega
  have hit:=x.2.1;rw[e]at hit;exact next_end hh hit λh' he'=>hQ h' s.toks λb o hb eo=>he' b o (λh=>hb (by simp[h])) eo
 self:=λ_ _ _ _ x hQ=>vR x.2.1 hQ
def Ah{R:Result->Shared->Prop}{I t:Addr}{items:Array Value}(hh:A.handled=none)(hit:gQ s.heap I t ((items.size:Int) - 1))(ht:IsTup s.heap t items)(hne:t≠I)(hlen:items.size<=sizeLine)
  (S:Addr) (hSI:S≠I) (hSt:S≠t) (res:Value) (c₀:Nat) (hS:s.heap.get? S=some { cls:=.type "list",data:=.seq #[] c₀ })
  (hR:∀h' tk acc' c',(∀b o,b≠S->b≠I->s.heap.get? b=some o->h'.get? b=some o)->h'.get? S=some { cls:=.type "list",dict:=none,data:=.seq acc' c',slots:=#[]}->
   ItemsOf (λi v=>items[items.size - 1 - i]?=some v) acc' items.size->R (.ok (.ret res)) { s with heap:=h',toks:=tk }) :
  wpAny (model prog w) A.in1 (Builtin.List.listExtendWith (.ref S) (.ref I) res)
   (λfin s'=>match fin with|.done f=>R (.ok f) s'|.again c'=>c'.quiet=true/\codeAny (model prog w) A c' R s') (λe s'=>R (.error e) s') s:=by
 have hf:(items.size:Int)<2 ^ 62:=by rw[aa9]at hlen;omega
 have hSf:S∉[I,t]:=λhm=>by rcases List.mem_cons.mp hm with e|e;exact hSI e;exact hSt (List.mem_singleton.mp e)
 have W:=(Walks.L6 (prog:=prog) (w:=w) (A:=A.in1) hh I t hne items hf).toS;have key:∀(h:Heap) (c₁ tk:Nat),gQ h I t ((items.size:Int) - 1 - ((0:Nat):Int))->IsTup h t items->(∀b o,b≠S->s.heap.get? b=some o->h.get? b=some o)->
   h.get? S=some { cls:=.type "list",data:=.seq #[] c₁ }->codeAny (model prog w) A (.builtin "list.extend.loop" ⟨[.ref S,.ref I,res],[]⟩) R { s with heap:=h,toks:=tk }:=by
  intro h c₁ tk hit ht hk QS;refine codeAny_extend_loopS W hlen S hSf res items.size 0 _ #[] c₁ rfl (aaW _) ⟨aaW _,hit,ht⟩ QS (ItemsOf.nil _) λs' acc' c' hm hS' hacc=>?_;rw[Moved.eq_with hm];refine hR s'.heap s'.toks acc' c' (λb o hb hb2 e=>hm.heap b o (λhmem=>?_) (hk b o hb e)) hS' hacc;rcases List.mem_cons.mp hmem with e'|hmem
  .exact hb e'
  .exact hb2 (List.mem_singleton.mp hmem)
 unfold Builtin.List.listExtendWith;refine gF (abX (T:="reversed") hit.typeIs ?_);have h1:Builtin.List.listSameRef (.ref S) (.ref I)=false:=by simp[Builtin.List.listSameRef,hSI]
 have h2:(Value.type "reversed" ==Value.type "list")=false:=by decide
 have h3:(Value.type "reversed" ==Value.type "tuple")=false:=by decide
 simp only[h1,h2,h3,acX,aai,aaL];refine gF (vR hit ?_);refine gF (acg (D7 hit ht hlen λtk=>?_));have L8:gQ s.heap I t ((items.size:Int) - 1 - ((0:Nat):Int)):=by simpa using hit
 refine aaK (λ_=>?_) (λ_=>uq ⟨plainId_quiet F.plain_extend_loop _,key _ c₀ _ L8 ht (λb o _ e=>e) hS⟩);refine gF (acq ?_);refine gF ?_;show wpAny _ _ (updateSeq S (·.push .none) >>= λ_=>updateSeq S (·.pop)) _ _ _;refine gF (acI hS rfl ?_);have uQ:=aa7 (Obj.mapSeq (·.push Value.none)) hS rfl;refine acI (hz:=by seq_fits) uQ rfl ?_;have QT:=aa7 (Obj.mapSeq (·.pop)) uQ rfl;have ot:∀b o,b≠S->s.heap.get? b=some o->((s.heap.update S (Obj.mapSeq (·.push Value.none))).update S (Obj.mapSeq (·.pop))).get? b=some o:=λb o hb e=>(abk _ _ (abl hb)).trans ((abk _ _ (abl hb)).trans e);exact uq ⟨plainId_quiet F.plain_extend_loop _,key _ _ _ (L8.at λo e=>ot _ _ (abl hSI) e) (oq ht λo e=>ot _ _ (abl hSt) e) ot QT⟩
def D8{R:Result->Shared->Prop}{I t:Addr}{items:Array Value}(hh:A.handled=none)(hit:gQ s.heap I t ((items.size:Int) - 1))(ht:IsTup s.heap t items)(hne:t≠I)(hlen:items.size<=sizeLine)
  (S:Addr) (hSI:S≠I) (hSt:S≠t) (hS:s.heap.get? S=some { cls:=.type "list",data:=.seq #[]})
  (hR:∀h' tk acc' c',(∀b o,b≠S->b≠I->s.heap.get? b=some o->h'.get? b=some o)->h'.get? S=some { cls:=.type "list",dict:=none,data:=.seq acc' c',slots:=#[]}->
   ItemsOf (λi v=>items[items.size - 1 - i]?=some v) acc' items.size->R (.ok (.ret .none)) { s with heap:=h',toks:=tk }) :
  wpAny (model prog w) A.in1 (Builtin.«list.__init__» ⟨[.ref S,.ref I],[]⟩)
   (λfin s'=>match fin with|.done f=>R (.ok f) s'|.again c'=>c'.quiet=true/\codeAny (model prog w) A c' R s') (λe s'=>R (.error e) s') s:=by
 show wpAny _ _ (do let old <-Builtin.List.listItems (.ref S);Builtin.List.listUpdate (.ref S) (λ_=>#[]);letGo old.toList.reverse;Builtin.List.listExtendWith (.ref S) (.ref I) .none) _ _ s;refine gF ?_;unfold Builtin.List.listItems;refine gF (wpAny_seqItems hS rfl (uq ?_));show wpAny _ _ (updateSeq S (λ_=>#[]) >>= λ_=>letGo (#[]:Array Value).toList.reverse >>= λ_=>Builtin.List.listExtendWith (.ref S) (.ref I) .none) _ _ s;refine gF (acI hS rfl ?_);have uQ:=aa7 (Obj.mapSeq (λ_=>(#[]:Array Value))) hS rfl;have Ma:∀b o,b≠S->s.heap.get? b=some o->(s.heap.update S (Obj.mapSeq (λ_=>(#[]:Array Value)))).get? b=some o:=
  λb o hb e=>(abk _ _ (abl hb)).trans e
 refine gF (wpAny_letGo ?_);refine Ah hh (hit.at λo e=>Ma _ _ (abl hSI) e) (oq ht λo e=>Ma _ _ (abl hSt) e) hne hlen S hSI hSt .none _ uQ λh' tk acc' c' hk hS' hacc=>?_;exact hR h' tk acc' c' (λb o hb hb2 e=>hk b o hb hb2 (Ma b o hb e)) hS' hacc
def uv{Q:Value->Shared->Prop}{I t:Addr}{items:Array Value}(hh:A.handled=none)(hit:gQ s.heap I t ((items.size:Int) - 1))(ht:IsTup s.heap t items)(hne:t≠I)(hlen:items.size<=sizeLine)
  (hQ:∀h' tk acc' c',(∀b o,b≠I->s.heap.get? b=some o->h'.get? b=some o)->
   h'.get? s.heap.objs.size=some { cls:=.type "list",dict:=none,data:=.seq acc' c',slots:=#[]}->ItemsOf (λi v=>items[items.size - 1 - i]?=some v) acc' items.size->Q (.ref s.heap.objs.size) { s with heap:=h',toks:=tk }) :
  wpAny (model prog w) A (call (.type "list") [.ref I]) Q E s:=by
 refine callType_codes (Q₁:=λobj s₁=>obj=.ref s.heap.objs.size/\s₁={ s with heap:=s.heap.push { cls:=.type "list",data:=.seq #[]}}) F.called_list (F.typeCall_list_1 _) F.entry_list_init
  (code_list_new _ ⟨rfl,rfl⟩) λobj s₁ h₁=>?_
 obtain⟨rfl,rfl⟩:=h₁;have hS:(s.heap.push { cls:=.type "list",data:=.seq #[]}).get? s.heap.objs.size=some { cls:=.type "list",data:=.seq #[]}:=aae _ rfl;have hI:I<s.heap.objs.size:=by obtain⟨o,ho,_⟩:=hit;exact Xl ho
 have hT:t<s.heap.objs.size:=by obtain⟨o,ho,_⟩:=ht;exact Xl ho
 refine⟨⟨_,hS,rfl⟩,F.args_list_init_2 _ _,D8 (A:=A.in1) hh (hit.at λo e=>FJ _ e) (oq ht λo e=>FJ _ e) hne hlen _ (ac1 hI) (ac1 hT) hS λh' tk acc' c' hk hS' hacc=>?_⟩;exact⟨rfl,hQ h' tk acc' c' (λb o hb e=>hk b o (aaq (Xl e)) hb (FJ _ e)) hS' hacc⟩
end
end Rv
namespace Sm
open PySem PySem.Spec PyProof.Rows L2 PySem.SeqAt
open Ev (D O Hh Fr R aP E Es Eo T S Ss Fl Src bJ bx TY BI ME)
section
variable{X:Cx}{G:Tb}{n:Nat}{sc:Scope}{N:List Str}{df:Bool}{m:List Nat}{a b:E}{xa:Expr}{pos:Pos}
def D9{vs:List V}{us:List Value}(r:Vals vs us){acc:Array Value}(h:ItemsOf (λi v=>us.toArray[us.toArray.size - 1 - i]?=some v) acc us.toArray.size):Vals vs.reverse acc.toList:=by
 obtain⟨h1,h2⟩:=h;have e:acc.toList=us.reverse:=by
  apply abJ;intro i;by_cases hi:i<us.length
  .have ha:i<acc.size:=by rw[h1];simpa using hi
   have:=h2 i _ (acw ha);rw[List.getElem?_reverse hi];simp only[G3,acQ]at this;rw[this];simp[ha]
  .have hs:acc.size=us.length:=by rw[h1];simp
   rw[aah (by rw[abg];omega),aah (by rw[acZ];omega)]
 rw[e];exact Vals.reverse r
def Iw {p p2 pos2:Pos}(ha:JE G n sc N df m a xa) (h1:("list" : Str)∈G.bl:=by decide +kernel) (BZ:sc.names.lookup ("list" : Str)=some .globalImplicit:=by rfl)
  (hg:sc.names.lookup ("reversed" : Str)=some .globalImplicit:=by rfl) (hb:("reversed" : Str)∈G.bl:=by decide +kernel)
  (hst:∀env:Env,starEach [xa] env=[(false,eval xa env)]:=by intro _;rfl)
  (Mb:∀env:Env,starEach [Expr.Call (.Name "reversed" p2) [xa] [] pos2] env=[(false,eval (Expr.Call (.Name "reversed" p2) [xa] [] pos2) env)]:=by intro _;rfl) :
  JE G n sc N df m (.gp (.rev a)) (.Call (.Name "list" p) [.Call (.Name "reversed" p2) [xa] [] pos2] [] pos):=λX g=>by
 intro pins s σ H Q I q;obtain⟨r,fr,h,d,h',sr,hr,e,q⟩:=q;rw[Ev.ev,Ev.cT]at e;replace e:=Ev.ai e;obtain⟨src,h3,e1,e⟩:=e;replace e1:=Ev.ai e1;obtain⟨x,h4,e2,e1⟩:=e1;replace e1:=Ev.aI e1;obtain⟨e1,y0⟩:=e1;subst y0;refine abz (jS I (g.gl BZ) (g.bl _ h1) (show bootBuiltins ("list" : Str)=some (.type "list")by decide +kernel) ?_ (by decide) (by decide));refine aaR ?_ (Mb _) rfl;rw[Mb];show wpAny _ _ (spliced ((false,eval (Expr.Call (.Name "reversed" p2) [xa] [] pos2) X.env) :: backTo pos [])) _ _ s;refine Calls.spliced_cons ?_;have X4:PA X [xa] _:=lG (ha X g) qi (by rw[hst];rfl);refine Call_ (jS I (g.gl hg) (g.bl _ hb) (show bootBuiltins ("reversed" : Str)=some (.type "reversed")by decide +kernel) (aaR (bF (X4 pos2 pins s σ H (λvs H1=>∃r1 u,vs=[u]/\RV X.K H1 r1 x u/\HR X.K H1 r1 h3/\Fm X.K r r1 H H1) I ⟨r,fr,h,x,h3,sr,hr,e2,λu H1 r1 v1 hr1 f1=>⟨r1,u,rfl,v1,hr1,f1⟩⟩) λus s1 z=>?_) (hst _) rfl));obtain⟨vs,H1,I1,rv,r1,u,rfl,v1,hr1,f1⟩:=z;cases x<;>simp only[Ev.DO,Option.map,reduceCtorEq]at e1
 rename_i ds;cases e1;obtain⟨t,ws,rfl,z,w⟩:=v1.shape;cases rv with
 |cons ra rb=>
 cases rb;cases ra;obtain⟨its,pv,pt,hz⟩:=I1.tuple z;have hlen:its.toArray.size<=sizeLine:=by rw[G3,<-pv.length];exact hz
 have hf:(its.toArray.size:Int)<2 ^ 63:=by rw[aa9]at hlen;omega
 refine Rv.D6 pt hf ?_;refine Calls.spliced_nil ?_;have I2:Inv X pins σ H1 { s1 with heap:=s1.heap.push (Rv.om t ((its.toArray.size:Int) - 1)),toks:=s1.toks+1+1 }:=I1.kept λb o e=>FJ _ e;have hne:t≠s1.heap.objs.size:=by obtain⟨o,ho,_⟩:=pt;exact aaq (Xl ho)
 refine Rv.uv (I1.ok.hd g.calm) ⟨_,aae _ rfl,rfl,rfl⟩ (Rv.oq pt λo e=>FJ _ e) hne hlen λh' tk acc' c' hk hS' hacc=>?_;obtain⟨hz2,q2⟩:=(q.later f1).lst e w.reverse hr1;have hp:s1.heap.objs.size<=(s1.heap.push (Rv.om t ((its.toArray.size:Int) - 1))).objs.size:=by rw[size_push'];exact Nat.le_succ _
 refine⟨.ref _,_,I1.laid (t':=tk) (o:=.lst ws.reverse) (λb u e=>hk b u (aaq (Xl e)) (FJ _ e)) hp ?_,rfl,q2 _ (I1.hok.fresh hp)⟩;exact⟨by simpa using hz,acc'.toList,c',D9 pv hacc,by simpa using hS'⟩
end
theorem aG.ofInts{K:PySem.W.Frag}{H:Hp}{r:List Addr}:∀ns:List Int,aG K H r (ns.map D.int) (ns.map V.int)
 |[]=>.nil
 |_ :: l=>.cons rfl (aG.ofInts l)
def Mc{K:PySem.W.Frag}{H:Hp}{a:Addr}{vs:List V}(hO:rO H)(hS:fS K H a vs):zS K H a vs:=by
 rcases hS with h|h
 .rcases h with h|⟨o,h⟩
  .rcases hO a with q|⟨o,xs,q⟩
   .rw[q]at h;cases h
   .rw[q]at h;cases h
  .exact .inl ⟨o,h⟩
 .exact .inr h
def QU{K:PySem.W.Frag}{F:List Ev.Fn}{w n f:Nat}{H:Hp}{a:Addr}{ns:List Int}(hO:rO H)(hS:fS K H a (ns.map V.int)){h':Hh}(e:Ev.run F w n f [.ref 0] [.bU (ns.map D.int)]=.ok (.bl true) h') :
  oX K F w n f [.ref a] H (λv _=>v=.bl true) λ_ _ _=>False:=by
 refine⟨[a],[.bU (ns.map D.int)],[.ref 0],.bl true,h',.cons (show RV K H [a] (.ref 0) (.ref a)from ⟨a,rfl,rfl⟩) .nil,⟨rfl,λk o hk=>?_,λk l b x y _ _ hk _=>?_
  ⟩,e,λv H' r' v1 _ _=>v1⟩
 .cases k with
  |zero=>
   simp at hk;subst hk;exact⟨a,rfl,_,Mc hO hS,aG.ofInts ns⟩
  |succ k=>simp at hk
 .cases k with
  |zero=>simp at hk
  |succ k=>simp at hk
def Iz{F:List Ev.Fn}{wh n f:Nat}{l:PySem.W.OpenLaw}{q:Program}{loose:List Str}{XP:(Str->Option Value)->Heap->Prop}{YP:World->Heap->Prop}{d:DefRec}{K:Params->PySem.W.Frag}{x:Str}(hn:l.most=some 63)(hdf:d.params.defaults=[])(hr:g9 n callerA)
  (hY:∀(w:World) (h:Heap),YP w h->(K w.params).In h) (good:∀ns:List Int,ns.length<=63->∃h',Ev.run F wh n f [.ref 0] [.bU (ns.map D.int)]=.ok (.bl true) h')
  (Fo:∀(w:World) (mg:Str->Option Value) (fa:Addr) (h:Heap),(K w.params).In h->h.Ns mainGlobals mg->mg d.name=some (.ref fa)->
   ∃fd:FuncData,(∀(s:Shared) (u:Value),BindsTo s fd ⟨[u],[]⟩ [(x,u)])/\∀base:Heap,(K w.params).In base->base.Ns mainGlobals mg->iW l.prog w (K w.params) mg base ng n fa fd [x] (oX (K w.params) F wh n f)) :
  PySem.W.WalkO q loose XP YP l.row.toRowW d [] (λf vs=>PySem.call f vs):=
 L2.DM (n:=63) (k:=n) (x:=x) (CX:=ng) (sp:=λK=>oX K F wh n f) hn (by decide) hdf hr hY Fo (λK H a ns hl hO hS=>by
  obtain⟨h',e⟩:=good ns hl;exact QU hO hS e) λ_ _ _ _ z=>z
theorem B8{P:Program}{w:World}{K:PySem.W.Frag}{mg:Str->Option Value}{base:Heap}{G:Tb}(T:Top P w K mg G)
  (st:∀n,uO P w K mg base G n->uO P w K mg base G (n+1)):∀n,uO P w K mg base G n
 |0=>λf i _=>Ic
 |n+1=>st n (B8 T st n)
end Sm
namespace Sm
open PySem PySem.Spec PyProof.Rows L2
open Ev (D O Hh Fr R aP E Es Eo It T S Ss Fl Src bJ bx TY BI ME)
section
variable{G:Tb}{n:Nat}{sc:Scope}{N:List Str}{df:Bool}{m:List Nat}{a b:E}{xa xb:Expr}{pos:Pos}
noncomputable def hasB(N:List Str)(m:List Nat)(x:Str)(i:Nat):Bool:=(List.range N.length).any λj=>m[j]?==some i&&N[j]?==some x
def hasB.of{x:Str}{i:Nat}(h:hasB N m x i=true):∃j:Nat,m[j]?=some i/\N[j]?=some x:=by
 obtain⟨j,_,q⟩:=List.any_eq_true.mp h;rw[xg]at q;exact⟨j,by simpa using q.1,by simpa using q.2⟩
noncomputable def vB (sc:Scope) (N:List Str) (m:List Nat) (x:Str) (i:Nat):Bool:=hasB N m x i&&(sc.names.lookup x==some .local ||sc.names.lookup x==some .cell ||sc.names.lookup x==some .free)&&!(x==("__debug__" : Str))&&!(x==("__classdict__" : Str))
def jv{x:Str}{i:Nat}(h:vB sc N m x i=true):JE G n sc N df m (.v i) (.Name x pos):=by
 unfold vB at h;simp only[xg,acp,aaQ]at h;obtain⟨⟨⟨h1,h2⟩,h3⟩,h4⟩:=h;obtain⟨j,e1,e2⟩:=hasB.of h1;exact Wc j i e1 e2 (by rcases h2 with (h2|h2)|h2;exact .inl (by simpa using h2);exact .inr (.inl (by simpa using h2));exact .inr (.inr (by simpa using h2))) h3 h4
noncomputable def gB(sc:Scope)(N:List Str)(df:Bool)(m:List Nat)(x:Str)(i:Nat):Bool:=hasB N m x i&&(sc.names.lookup x==some .local || (df&&sc.names.lookup x==some .cell))&&decide m.Nodup&&decide N.Nodup
theorem gB.of{x:Str}{i:Nat}(h:gB sc N df m x i=true):∃j:Nat,m[j]?=some i/\N[j]?=some x/\(sc.names.lookup x=some .local\/(df=true/\sc.names.lookup x=some .cell))/\m.Nodup/\N.Nodup:=by
 unfold gB at h;simp only[xg,aaQ]at h;obtain⟨⟨⟨h1,h2⟩,h3⟩,h4⟩:=h;obtain⟨j,e1,e2⟩:=hasB.of h1;exact⟨j,e1,e2,by rcases h2 with h2|⟨h2,h5⟩;exact .inl (by simpa using h2);exact .inr ⟨h2,by simpa using h5⟩,aas h3,aas h4⟩
def X5{x:Str}{i:Nat}(h:gB sc N df m x i=true):JG G n sc N df m (.one i) (.Name x pos):=by
 obtain⟨j,e1,e2,e3,e4,e5⟩:=gB.of h;exact Lp j i e4 e5 e1 e2 e3
def X6{x:Str}{i:Nat}{l:List Nat}{xs:List Expr}(h:gB sc N df m x i=true)(hs:tQ G n sc N df m l xs):tQ G n sc N df m (i :: l) (.Name x pos :: xs):=by
 obtain⟨j,e1,e2,e3,e4,e5⟩:=gB.of h;exact DR j i e4 e5 hs e1 e2 e3
def Wo{i:Nat}{x:Str}{pos':Pos}(h:gB sc N df m x i=true)(ha:JE G n sc N df m a xa)(hs:∀env:Env,swapsWith xa (some (.Name x pos')) pos.line env=pure false:=by intro _;rfl):JS G n sc N df m (.set i a) (.Assign [.Name x pos'] xa pos):=by
 obtain⟨j,e1,e2,e3,e4,e5⟩:=gB.of h;exact Lq j i e4 e5 ha hs e1 e2 e3
noncomputable def Ue (sc:Scope) (x:Str):Bool:=sc.names.lookup x==some .globalImplicit&&!(x==("__debug__" : Str))
def X7{f:Nat}{i:FI}{es:Es}{x:Str}{e0:Expr}{xs:List Expr}{p:Pos}(h:Ue sc x=true)(hf:G.fi[f]?=some i)(hx:i.name=x)(hs:JA G n sc N df m es (e0 :: xs))
  (hst:∀env:Env,starEach (e0 :: xs) env=(false,eval e0 env) :: starEach xs env:=by intro _;rfl) (hpl:∀env:Env,(backTo pos (starEach xs env)).any (·.1)=false:=by intro _;rfl) :
  JE G n sc N df m (.cl f es) (.Call (.Name x p) (e0 :: xs) [] pos):=by
 subst hx;unfold Ue at h;simp only[xg,acp]at h;exact QG hf hs (by simpa using h.1) h.2 hst hpl
noncomputable def X8:Expr->List Str
 |.Name x _=>[x]
 |.Tuple xs _ _=>xs.filterMap λy=>match y with|.Name x _=>some x|_=>none
 |_=>[]
noncomputable def Ug(N:List Str)(m:List Nat)(scope:Scope):List (Str×Nat):=(N.zip m).filter λp=>scope.names.contains (p.1,NameKind.free)
noncomputable def cN(N:List Str)(m:List Nat)(scope:Scope)(tg:Expr):List Str:=X8 tg++(Ug N m scope).map (·.1)
noncomputable def cM(N:List Str)(m:List Nat)(scope:Scope)(t:T):List Nat:=Ev.slots t++(Ug N m scope).map (·.2)
def QV{elt:E}{t:T}{it:Ev.It}{cond:Eo}{tg xi xe:Expr}{ifs:List Expr}{scope:Scope}(hn:qq sc N m scope t (cN N m scope tg) (cM N m scope t)=true)(hs:Gu sc scope=true)
  (hi:JI G n sc N df m it tg xi) (hg:JG G n (fN sc scope) (cN N m scope tg) false (cM N m scope t) t tg) (hc:JC G n (fN sc scope) (cN N m scope tg) false (cM N m scope t) cond ifs)
  (he:JE G n (fN sc scope) (cN N m scope tg) false (cM N m scope t) elt xe) (hf:∀(env:Env) x,foldedSetIterable xi env x=pure x:=by intro _ _;rfl):JE G n sc N df m (.comp elt t it cond) (.ListComp xe [⟨tg,xi,ifs,0⟩] scope pos):=
 yH hi hg hc he (namesOk.of hn) (kP.of hs) hf
def QW{i:Nat}{x:Str}{pos' cpos:Pos}{elt:E}{t:T}{it:Ev.It}{cond:Eo}{tg xi xe:Expr}{ifs:List Expr}{scope:Scope}(h:gB sc N df m x i=true)(hn:qq sc N m scope t (cN N m scope tg) (cM N m scope t)=true)(hs:Gu sc scope=true)
  (hi:JI G n sc N df m it tg xi) (hg:JG G n (fN sc scope) (cN N m scope tg) false (cM N m scope t) t tg) (hc:JC G n (fN sc scope) (cN N m scope tg) false (cM N m scope t) cond ifs)
  (he:JE G n (fN sc scope) (cN N m scope tg) false (cM N m scope t) elt xe) (hf:∀(env:Env) x,foldedSetIterable xi env x=pure x:=by intro _ _;rfl) :
  JS G n sc N df m (.set i (.comp elt t it cond)) (.Assign [.Name x pos'] (.ListComp xe [⟨tg,xi,ifs,0⟩] scope cpos) pos):=by
 obtain⟨j,e1,e2,e3,e4,e5⟩:=gB.of h;exact Ih j i e4 e5 hi hg hc he (namesOk.of hn) (kP.of hs) e1 e2 e3 hf
def Wq{rest:List Expr}(ha:JT G n sc N df m a xa)(hb:JW G n sc N df m b (.BoolOp .And (xb :: rest) pos)):JT G n sc N df m (.an a b) (.BoolOp .And (xa :: xb :: rest) pos):=Le (Gp ha hb)
def Wr{rest:List Expr}(ha:JT G n sc N df m a xa)(hb:JW G n sc N df m b (.BoolOp .Or (xb :: rest) pos)):JT G n sc N df m (.orr a b) (.BoolOp .Or (xa :: xb :: rest) pos):=Le (By ha hb)
noncomputable def allB(G:Tb)(n:Nat):List (Ss×Stmt×List Str)->Prop
 |[]=>True
 |p :: r=>mX G n (aH p.2.1) p.2.2 true (List.range p.2.2.length) p.1 (iw p.2.1)/\allB G n r
theorem allB.get:∀{l:List (Ss×Stmt×List Str)}{k:Nat}{p:Ss×Stmt×List Str},allB G n l->l[k]?=some p->mX G n (aH p.2.1) p.2.2 true (List.range p.2.2.length) p.1 (iw p.2.1)
 |[],_,_,_,e=>nomatch e
 |_ :: _,0,_,h,e=>by cases e;exact h.1
 |_ :: r,k+1,p,h,e=>allB.get (l:=r) (k:=k) h.2 (by simpa using e)
end
end Sm
namespace Sm
open PySem PySem.Spec PyProof.Rows L2 PySem.SeqAt
open Ev (D O Hh Fr R aP E Es Eo T S Ss Fl Src bJ bx TY BI ME)
def yQ(i:Int):Str.ofString (toString i)=aB (Ev.gj i):=by
 rw[Str.ofString_eq_byList];rfl
def ud{i:Int}(h:-1000000<i/\i<1000000):i.natAbs.log2<1920:=by
 refine Nat.lt_of_not_le λz=>?_;have h0:i.natAbs≠0:=λe=>by rw[e]at z;exact absurd z (by decide)
 have h1:2 ^ 1920<=i.natAbs:=aaa (acS (by decide) z) (Nat.log2_self_le h0);have h2:2 ^ 20<=(2:Nat) ^ 1920:=acS (by decide) (by decide);have h3:i.natAbs<2 ^ 20:=by omega
 exact absurd (aaa h2 h1) (Nat.not_le.mpr h3)
def IA {X:Cx}:fG X (.type "str") (oV X.K (Ev.cH .gO)):=by
 intro pins s σ H xs us Q I r q;obtain⟨rr,h,as,d,h',hr,v1,e,q⟩:=q
 match as,e with
 |[.int i],e=>
  delta Ev.cH at e;dsimp only at e
  split at e
  .rename_i k;cases e;simp only[aG,RV]at v1;obtain⟨v,w,rfl,rfl,rfl⟩:=v1;obtain⟨u,rfl,r1⟩:=vals1 r;obtain⟨t,rfl⟩:=r1;refine PySem.P.str_of_int (ud k) ⟨.str (aB (Ev.gj i)),H,I.tok _,⟨_,aab (λz=>Value.str z _) (yQ i)⟩,q.here ⟨rfl,?_⟩ hr⟩;have:=int_text_fits (ud k);rw[yQ,bf]at this;exact this
  .cases e
 |[.str l],e=>
  cases e;simp only[aG,RV]at v1;obtain⟨v,w,rfl,⟨rfl,hl⟩,rfl⟩:=v1;obtain⟨u,rfl,r1⟩:=vals1 r;obtain⟨t,rfl⟩:=r1;exact PySem.P.str_of_str ⟨.str (aB l),H,I,⟨_,rfl⟩,q.here ⟨rfl,hl⟩ hr⟩
def yR:((List.range 10).all λa=>intText? (aB [a+48])==some (a:Int))=true/\((List.range 10).all λa=>(List.range 10).all λb=>intText? (aB [a+48,b+48])==some (10*(a:Int)+b))=true:=by
 constructor<;>decide +kernel
def vS{a:Nat}(h:Ev.pK a=true):∃k,k∈List.range 10/\a=k+48:=by
 simp only[Ev.pK,xg,aay]at h;exact⟨a - 48,by simp;omega,by omega⟩
def Me{l:List Nat}{i:Int}(e:Ev.pL l=some i):intText? (aB l)=some i/\l.length<=640:=by
 match l,e with
 |[a],e=>
  simp only[Ev.pL]at e;split at e
  .rename_i h;obtain⟨k,k1,rfl⟩:=vS h;have:=List.all_eq_true.mp yR.1 k k1;cases e;exact⟨by rw[beq_iff_eq.mp this];congr 1;omega,by simp⟩
  .cases e
 |[a,b],e=>
  simp only[Ev.pL,xg]at e;split at e
  .rename_i h;obtain⟨k,k1,rfl⟩:=vS h.1;obtain⟨j,j1,rfl⟩:=vS h.2;have:=List.all_eq_true.mp (List.all_eq_true.mp yR.2 k k1) j j1;cases e;exact⟨by rw[beq_iff_eq.mp this];congr 1;omega,by simp⟩
  .cases e
def IB {X:Cx}:fG X (.type "int") (oV X.K (Ev.cH .mj)):=by
 intro pins s σ H xs us Q I r q;obtain⟨rr,h,as,d,h',hr,v1,e,q⟩:=q
 match as,e with
 |[.str l],e=>
  delta Ev.cH at e;dsimp only at e
  obtain⟨e2,y0⟩:=Ev.aI e;subst y0;obtain⟨i,e3,rfl⟩:=Option.map_eq_some_iff.mp e2;obtain⟨n1,n2⟩:=Me e3;simp only[aG,RV]at v1;obtain⟨v,w,rfl,⟨rfl,hl⟩,rfl⟩:=v1;obtain⟨u,rfl,r1⟩:=vals1 r;obtain⟨t,rfl⟩:=r1;exact PySem.W.KIN.call_text n1 (by rw[bf];exact n2) ⟨.int i,H,I.tok _,⟨_,rfl⟩,q.here rfl hr⟩
noncomputable def iZ(c:Nat):Nat->List Nat->List Nat
 |_,[]=>[]
 |k,x :: l=>if x=c then k :: iZ c (k+1) l else iZ c (k+1) l
def sub_one(a:List Nat)(c i:Nat):Builtin.Str.subAt (aB a) (aB [c]) i=decide ((a.drop i).take 1=[c]):=by
 unfold Builtin.Str.subAt;have e:(aB a).cps.extract i (i+(aB [c]).length)=((a.drop i).take 1).toArray:=by
  rw[bf];show a.toArray.extract _ _=_;rw[ab4]
  congr 1
  rw[List.extract_eq_drop_take]
  congr 1;simp
 rw[e];show(((a.drop i).take 1).toArray==[c].toArray)=_;by_cases q:(a.drop i).take 1=[c]
 .simp[q]
 .rw[aac q];exact beq_eq_false_iff_ne.mpr λz=>q (by simpa using z)
theorem vU(a:List Nat)(c:Nat):∀(l:List Nat) (k:Nat) (acc:Array Nat) (free:Nat),a.drop k=l->k+l.length=a.length->acc.size<=k->free<=k->
  (forIn (List.range' k (l.length+1)) (acc,free) (StrLaws.occBody (aB a) (aB [c]) a.length (a.length+1))).run.fst.toList=acc.toList++iZ c k l
 |[],k,acc,free,hd,hk,hs,hf=>by
  simp only[aby,Nat.zero_add,List.range'_one,aa5,List.forIn_nil];unfold StrLaws.occBody;rw[Yu (λz=>by have:=z.1.2;rw[bf]at this;simp at this hk;omega)];simp[iZ]
 |x :: l,k,acc,free,hd,hk,hs,hf=>by
  rw[aaf]at hk;rw[aaf,List.range'_succ,aa5];have hd2:a.drop (k+1)=l:=by rw[<-aaC,hd];rfl
  unfold StrLaws.occBody;have hsub:Builtin.Str.subAt (aB a) (aB [c]) k=decide (x=c):=by rw[sub_one,hd];simp
  by_cases hx:x=c
  .rw[JP ⟨⟨⟨by simp;omega,by simpa using hf⟩,by rw[bf];simp;omega⟩,by rw[hsub];simpa using hx⟩];have ih:=vU a c l (k+1) (acc.push k) (k+(aB [c]).length) hd2 (by omega) (by simp;omega) (by rw[bf];simp);unfold StrLaws.occBody at ih;simp only[iZ,JP hx];refine ab8 ?_ (ih.trans (by simp));rfl
  .rw[Yu (λz=>by have:=z.2;rw[hsub]at this;exact hx (by simpa using this))];have ih:=vU a c l (k+1) acc free hd2 (by omega) (by omega) (by omega);unfold StrLaws.occBody at ih;simp only[iZ,Yu hx];exact ab8 rfl ih
def r8(a:List Nat)(c:Nat):Builtin.Str.occurrences (aB a) (aB [c]) 0 (aB a).length ((aB a).length+1)=iZ c 0 a:=by
 rw[StrLaws.occ_eq,bf];have:=vU a c a 0 #[] 0 rfl (by simp) (by simp) (by simp);simpa using this
def jY(a:List Nat)(i j:Nat):Builtin.Str.strSub (aB a) i j=aB ((a.drop i).take (j - i)):=by
 unfold Builtin.Str.strSub;show(⟨a.toArray.extract i j⟩:Str)=_;rw[ab4,List.extract_eq_drop_take];rfl
theorem pP(a:List Nat)(c:Nat):∀(l cur:List Nat) (s k:Nat),a.drop s=cur++l->k=s+cur.length->k+l.length=a.length->
  ((s :: (iZ c k l).map (· + 1)).zip (iZ c k l++[a.length])).map (λp=>Builtin.Str.strSub (aB a) p.1 p.2)=((cur++(Ev.bC c l).headD []) :: (Ev.bC c l).tail).map aB
 |[],cur,s,k,hd,hk,hl=>by
  have e:(a.drop s).take (a.length - s)=cur:=by rw[hd,aao,aau (by simp at hl;omega)]
  simp[iZ,Ev.bC,jY,e]
 |x :: l,cur,s,k,hd,hk,hl=>by
  rw[aaf]at hl;have hd2:a.drop (k+1)=l:=by
   have h1:a.drop (s+(cur.length+1))=l:=by
    rw[<-aaC,hd,show cur++x :: l=(cur++[x])++l by simp,List.drop_left' (by simp)]
   rw[<-h1,hk];rfl
  by_cases hx:x=c
  .have ih:=pP a c l [] (k+1) (k+1) hd2 (by simp) (by omega);simp only[iZ,JP hx,Uz,aax,ac5];rw[jY,hd,show k - s=cur.length by omega,List.take_left' rfl];refine(aab _ ih).trans ?_;simp only[Ev.bC,JP hx,List.headD_cons,aao,List.tail_cons,abx,Uz]
   congr 1
   cases h:Ev.bC c l with
   |nil=>exact absurd h (by cases l<;>simp only[Ev.bC] <;> (try split) <;> (try split)<;>simp)
   |cons p ps=>simp
  .have ih:=pP a c l (cur++[x]) s (k+1) (by rw[hd];simp) (by simp;omega) (by omega);simp only[iZ,Yu hx];rw[ih];simp only[Ev.bC,Yu hx];cases h:Ev.bC c l with
   |nil=>exact absurd h (by cases l<;>simp only[Ev.bC] <;> (try split) <;> (try split)<;>simp)
   |cons p ps=>simp
def vV(c:Nat)(l:List Nat):∃p ps,Ev.bC c l=p :: ps:=by
 cases h:Ev.bC c l with
 |nil=>exact absurd h (by cases l<;>simp only[Ev.bC] <;> (try split) <;> (try split)<;>simp)
 |cons p ps=>exact⟨p,ps,rfl⟩
def pQ(a:List Nat)(c:Nat):Builtin.Str.partsBetween (aB a) (iZ c 0 a) (aB [c]).length=(Ev.bC c a).map aB:=by
 have:=pP a c a [] 0 0 (by simp) (by simp) (by simp);obtain⟨p,ps,e⟩:=vV c a;rw[e]at this ⊢;unfold Builtin.Str.partsBetween;rw[bf,bf];exact this.trans (by simp)
theorem split_len(c:Nat):∀(a:List Nat),∀p∈Ev.bC c a,p.length<=a.length
 |[],p,h=>by simp[Ev.bC]at h;simp[h]
 |x :: a,p,h=>by
  simp only[Ev.bC]at h;split at h
  .rcases List.mem_cons.mp h with rfl|h
   .simp
   .exact aaa (split_len c a p h) (by simp)
  .split at h
   .rename_i q ps e;rcases List.mem_cons.mp h with rfl|h
    .have:=split_len c a q (by rw[e];simp);simp;omega
    .exact aaa (split_len c a p (by rw[e];simp[h])) (by simp)
   .simp at h;simp[h]
noncomputable def Ea(a:D)(as:List D)(h:Hh):R D:=match as with
 |[b]=>(R.of (Ev.vz a b) h).bind λl h1=>Ev.alloc l h1
 |_=>.bad
theorem yS:∀(l:List (List Nat)) (k:Nat),Vals (l.map λp=>V.str (aB p)) (strsFrom k (l.map aB))
 |[],_=>.nil
 |_ :: l,k=>.cons ⟨_,rfl⟩ (yS l (k+1))
theorem aG.Eb{K:PySem.W.Frag}{H:Hp}{r:List Addr}:∀{ss:List (List Nat)},(∀l∈ss,l.length<=sizeLine)->aG K H r (ss.map D.str) (ss.map λl=>V.str (aB l))
 |[],_=>.nil
 |l :: ss,h=>.cons ⟨rfl,h l (by simp)⟩ (aG.Eb λx hx=>h x (by simp[hx]))
def yT{x y:D}{l:List D}(e:Ev.vz x y=some l):∃a c,x=.str a/\y=.str [c]/\c<128/\l=(Ev.bC c a).map .str:=by
 unfold Ev.vz at e;split at e
 .split at e
  .rename_i hc;cases e;exact⟨_,_,rfl,rfl,hc,rfl⟩
  .cases e
 .cases e
def Ec {X:Cx}:m9 X "str.split" (oW X.K Ea):=by
 intro pins s σ H x xs v us Q I rx rs q;obtain⟨r,h,a,as,d,h',hr,v1,v2,e,q⟩:=q
 match as,e with
 |[b],e=>
  simp only[Ea]at e;obtain⟨l,h1,e1,e9⟩:=Ev.ai e;obtain⟨e2,y0⟩:=Ev.aI e1;subst y0;obtain⟨a,c,rfl,rfl,hc,rfl⟩:=yT e2;simp only[RV]at v1;obtain⟨rfl,hl⟩:=v1;obtain⟨t,rfl⟩:=rx;simp only[aG,RV]at v2;obtain⟨y,w,rfl,⟨rfl,hl2⟩,rfl⟩:=v2;obtain⟨u,rfl,ru⟩:=vals1 rs;obtain⟨t2,rfl⟩:=ru;obtain⟨hz2,q2⟩:=q.lst e9 (aG.Eb λp hp=>aaa (split_len c a p hp) hl) hr;have fin:∀(its:List Value) (k:Nat),Vals ((Ev.bC c a).map λp=>V.str (aB p)) its->EP X pins σ Q (.ref s.heap.objs.size) { s with toks:=k,heap:=s.heap.push { cls:=.type "list",data:=.seq its.toArray }}:=λits k hv=>
   ⟨.ref s.heap.objs.size,_,I.laid (t':=k) (o:=.lst ((Ev.bC c a).map λp=>V.str (aB p))) (λb ob q=>FJ _ q) (WE _) ⟨hz2,its,_,hv,aae _ rfl⟩,rfl,q2 _ (I.hok.fresh (WE _))⟩
  have hy:((aB [c]).length==0)=false:=by rw[bf];rfl
  have one:Ev.bC c a=[a]->Vals ((Ev.bC c a).map λp=>V.str (aB p)) [Value.str (aB a) t]:=λz=>by rw[z];exact .cons ⟨_,rfl⟩ .nil
  cases c1:(decide ((aB a).length<(aB [c]).length) ||decide (Builtin.Str.strKind (aB a)<Builtin.Str.strKind (aB [c])))
  .cases c2:(Builtin.Str.occurrences (aB a) (aB [c]) 0 (aB a).length ((aB a).length+1)).isEmpty
   .refine aaX abS (abr _ _ _) aco (acf _ _) (meets_str_split_sep _ _ _ _ c1 hy c2 (by rw[bf];exact hl) ?_) ?_
    .rw[r8,pQ,aaw];simpa using hz2
    .have hv:=yS (Ev.bC c a) s.toks;rw[r8,pQ];exact fin _ _ hv
   .refine aaX abS (abr _ _ _) aco (acf _ _) (meets_str_split_not_found _ _ _ _ c1 hy c2) (fin _ s.toks (one ?_));rw[r8]at c2;have e2:=pQ a c;rw[List.isEmpty_iff.mp c2]at e2;unfold Builtin.Str.partsBetween at e2;simp only[abZ,abx,ac5,List.zip_nil_left,Uz,jY,bf,abo,Nat.sub_zero,List.take_length]at e2;obtain⟨p,ps,e3⟩:=vV c a;rw[e3]at e2 ⊢;simp only[Uz,List.cons.injEq]at e2;obtain⟨e4,e5⟩:=e2;rw[<-lK e4,List.map_eq_nil_iff.mp e5.symm]
  .refine aaX abS (abr _ _ _) aco (acf _ _) (meets_str_split_cannot_occur _ _ _ _ c1) (fin _ s.toks (one ?_));have k1:Builtin.Str.strKind (aB [c])=1:=by unfold Builtin.Str.strKind;rw[JP (by simp[aB];omega)]
   have k2:1<=Builtin.Str.strKind (aB a):=by unfold Builtin.Str.strKind;split <;> (try split)<;>decide
   rw[k1,aac (p:=Builtin.Str.strKind (aB a)<1) (by omega),acX,bf,bf]at c1;have:a=[]:=by simpa using c1
   rw[this];rfl
section
variable{G:Tb}{n:Nat}{sc:Scope}{N:List Str}{df:Bool}{m:List Nat}{a b c:E}{xa xb:Expr}{pos:Pos}
def Ed{apos:Pos}(ha:JE G n sc N df m a xa)(hs:JA G n sc N df m (.cons b .nil) [xb])
  (hbase:∀env:Env,attributeBase xa "split" env (eval xa env)=eval xa env:=by intro _;rfl)
  (hfew:∀env:Env,((backTo pos (starEach [xb] env)).all (λx=>!x.1)&&(backToKw pos (keywordEach [] env)).all (λx=>x.1.isSome)
   &&decide ([xb].length+([]:List Keyword).length+(if ([]:List Keyword).isEmpty then 0 else 1)<30))=true:=by intro _;rfl)
  (hline:(apos.endLine==pos.line)=true:=by rfl) (hst:∀env:Env,starEach [xb] env=(false,eval xb env) :: starEach [] env:=by intro _;rfl) (hpl:∀env:Env,(backTo pos (starEach [] env)).any (·.1)=false:=by intro _;rfl) :
  JE G n sc N df m (.gp (.jV a b)) (.Call (.Attribute xa "split" apos) [xb] [] pos):=λX g=>
 PE.of (Gi (T:="str") (id:="str.split") F.plainAttrs_str abS F.type_str_split Ec (ha X g) (hs X g) (hbase _) (hfew _) hline (hst _) (hpl _)) λs H Q q=>by
  obtain⟨r,fr,h,d,h',sr,hr,e,q⟩:=q;simp only[Ev.ev,Ev.cT]at e;obtain⟨sx,h3,e1,e9⟩:=Ev.ai e;obtain⟨x,h1,e2,e5⟩:=Ev.ai e1;obtain⟨y,h2,e3,e6⟩:=Ev.ai e5;obtain⟨e7,y0⟩:=Ev.aI e6;subst y0;obtain⟨l,e4,rfl⟩:=Option.map_eq_some_iff.mp e7;obtain⟨t,_,rfl,_⟩:=yT e4;refine⟨r,fr,h,.str t,h1,sr,hr,e2,λv H1 r1 v1 hr1 f1=>⟨?_,?_⟩⟩
  .simp only[RV]at v1;obtain⟨rfl,_⟩:=v1;rfl
  .refine⟨r1,fr,h1,[y],h3,sr.mono f1,hr1,by simp only[Ev.cC,e3,Ev.ak],λvs H2 r2 v2 hr2 f2=>?_⟩;exact⟨r2,h3,.str t,[y],d,h',hr2,v1.mono f2,v2,by simp only[Ea,e4];exact e9,q.later (f1.trans f2)⟩
noncomputable def Uh:D->Option Nat
 |.str [c]=>some c
 |_=>none
noncomputable def Ui:D->Bool
 |.str _=>true
 |_=>false
noncomputable def Ai:List (D×D)->Option (List Nat)
 |[]=>some []
 | (k,v) :: r=>if Ui v then (Uh k).bind λc=>(Ai r).map λl=>c :: l else none
theorem vW{c:Nat}:∀{kvs:List (D×D)}{ks:List Nat},Ai kvs=some ks->(PySem.Spec.lookup (.str (aB [c])) (tabOf kvs)).isSome=ks.contains c
 |[],ks,e=>by cases e;rfl
 | (k,v) :: l,ks,e=>by
  simp only[Ai]at e;split at e
  case isFalse=>cases e
  rename_i hv;obtain⟨d,e1,e2⟩:=Option.bind_eq_some_iff.mp e;obtain⟨l',e3,rfl⟩:=Option.map_eq_some_iff.mp e2;have ek:k=.str [d]:=by
   unfold Uh at e1;split at e1
   .cases e1;rfl
   .cases e1
  have ev:∃w,v=.str w:=by
   unfold Ui at hv;split at hv
   .exact⟨_,rfl⟩
   .cases hv
  obtain⟨w,rfl⟩:=ev;subst ek;simp only[tabOf,PySem.Spec.lookup];rw[acd,ac7];by_cases h:d=c
  .subst h;simp
  .have h2:¬ aB [d]=aB [c]:=λz=>h (by simpa using lK z);rw[aac h2,show(c==d)=false from by simp;exact λz=>h z.symm];exact vW e3
def Mf {x:Str}{kvs:List (D×D)}{ks:List Nat}{p:Pos}(hm:(x,kvs)∈G.dk) (ha:JE G n sc N df m a xa) (hk:Ai kvs=some ks:=by decide +kernel) (hg:sc.names.lookup x=some .globalImplicit:=by rfl) (hd:(x==("__debug__" : Str))=false:=by decide) :
  JT G n sc N df m (.cmp .fq a (.c (.str ks))) (.Compare xa [.NotIn] [.Name x p] pos):=λX g=>by
 obtain⟨ad,hmg,htab⟩:=g.dk x kvs hm;have pc:PC X .NotIn xa (.Name x p) (λσ H Q=>tJ X.K m (Ev.run G.F G.w n) a σ H λy H1=>∃c,y=.str (aB [c])/\Q (.bl (!ks.contains c)) H1):=by
  intro pins s σ H Q I h;refine bF (ha X g pins s σ H _ I h) λiv s1 ⟨y,H1,I1,ry,c,ey,q1⟩=>bF (rK (v:=.ref ad) (pos:=p) (g.gl hg) hmg rfl hd pins s1 σ H1 (λv H2=>v=.ref ad/\Q (.bl (!ks.contains c)) H2) I1 ⟨rfl,q1⟩) λu s2 ⟨z,H2,I2,rz,ez,q2⟩=>?_;subst ey;subst ez;obtain rfl:u=Value.ref ad:=rz;obtain⟨tk,rfl⟩:=ry;refine notin_strTab (htab s2.heap I2.gK) ?_;rw[vW hk];exact⟨.bl _,H2,I2.tok _,rfl,q2⟩
 refine PT.of (Kg pc) λs H Q q=>?_;obtain⟨r,fr,h,k,h',sr,hr,e,q⟩:=q;simp only[Ev.aN,Ev.ev]at e;obtain⟨d,h1,e1,e9⟩:=Ev.ai e;obtain⟨y,h2,e2,e3⟩:=Ev.ai e1;simp only[Ev.ak]at e3;obtain⟨e4,y0⟩:=Ev.aI e3;obtain⟨e5,y1⟩:=Ev.aI e9;subst y0;subst y1;obtain⟨b,e6,rfl⟩:=Option.map_eq_some_iff.mp e4;simp only[Ev.truthy,abH]at e5;subst e5;have e7:(Ev.isin y (.str ks) h').map (!·)=some b:=e6;obtain⟨b',e8,rfl⟩:=Option.map_eq_some_iff.mp e7;have hy:∃c,y=.str [c]/\b'=ks.contains c:=by
  unfold Ev.isin at e8;dsimp only at e8;split at e8
  .cases e8;exact⟨_,rfl,rfl⟩
  .cases e8
 obtain⟨c,rfl,rfl⟩:=hy;exact⟨r,fr,h,.str [c],h',sr,hr,e2,λv H1 r1 v1 hr1 f1=>by
  simp only[RV]at v1;exact⟨c,v1.1,_,rfl,q _ _ hr1 f1⟩⟩
end
end Sm
namespace Sm
open PySem PySem.Spec PyProof.Rows L2
open Ev (D O Hh Fr R aP E Es Eo It T S Ss Fl Src bJ bx TY BI ME)
def jZ(a y:List Nat)(i:Nat):Builtin.Str.subAt (aB a) (aB y) i=decide ((a.drop i).take y.length=y):=by
 unfold Builtin.Str.subAt;have e:(aB a).cps.extract i (i+(aB y).length)=((a.drop i).take y.length).toArray:=by
  rw[bf];show a.toArray.extract _ _=_;rw[ab4]
  congr 1
  rw[List.extract_eq_drop_take]
  congr 1;simp
 rw[e];show(((a.drop i).take y.length).toArray==y.toArray)=_;by_cases q:(a.drop i).take y.length=y
 .rw[q];simp
 .rw[aac q];exact beq_eq_false_iff_ne.mpr λz=>q (by simpa using z)
theorem vX(x y:Str)(hi:Nat):∀(l:List Nat) (acc:Array Nat) (free:Nat),1<=acc.size->(forIn l (acc,free) (StrLaws.occBody x y hi 1)).run.fst=acc
 |[],acc,free,_=>rfl
 |i :: l,acc,free,h=>by
  rw[aa5];have ih:=vX x y hi l acc free h;unfold StrLaws.occBody at ih ⊢;rw[Yu (λz=>by have:=z.1.1.1;simp at this;rw[this]at h;simp at h)];exact ab8 rfl ih
theorem yU(a y:List Nat):∀(l:List Nat) (k:Nat) (free:Nat),a.drop k=l->k+l.length=a.length->free<=k->
  (forIn (List.range' k (l.length+1)) ((#[]:Array Nat),free) (StrLaws.occBody (aB a) (aB y) a.length 1)).run.fst.toList=(Ev.findS y k l).toList
 |[],k,free,hd,hk,hf=>by
  simp only[aby,Nat.zero_add,List.range'_one,aa5,List.forIn_nil];unfold StrLaws.occBody;by_cases hy:y=[]
  .subst hy;rw[JP ⟨⟨⟨by simp,by simpa using hf⟩,by rw[bf];simp at hk ⊢;omega⟩,by rw[jZ];simp⟩];simp[Ev.findS]
  .have:0<y.length:=List.length_pos_iff.mpr hy;rw[Yu (λz=>by have:=z.1.2;rw[bf]at this;simp at this hk;omega)];simp[Ev.findS,hy]
 |x :: l,k,free,hd,hk,hf=>by
  rw[aaf]at hk;rw[aaf,List.range'_succ,aa5];have hd2:a.drop (k+1)=l:=by rw[<-aaC,hd];rfl
  have hsub:Builtin.Str.subAt (aB a) (aB y) k=decide ((x :: l).take y.length=y):=by rw[jZ,hd]
  by_cases hx:(x :: l).take y.length=y
  .have hlen:y.length<=l.length+1:=by have:=aab List.length hx;simp at this;omega
   have full:=vX (aB a) (aB y) a.length (List.range' (k+1) (l.length+1)) ((#[]:Array Nat).push k) (k+(aB y).length) (by simp);unfold StrLaws.occBody at full ⊢;rw[JP ⟨⟨⟨by simp,by simpa using hf⟩,by rw[bf];first|omega | (simp;omega)⟩,by rw[hsub];simpa using hx⟩];simp only[Ev.findS,JP hx];refine ab8 (aab Array.toList (ab8 rfl full)) ?_;simp
  .have ih:=yU a y l (k+1) free hd2 (by omega) (by omega);unfold StrLaws.occBody at ih ⊢;rw[Yu (λz=>by have:=z.2;rw[hsub]at this;exact hx (by simpa using this))];simp only[Ev.findS,Yu hx];exact ab8 rfl ih
def Mg(a y:List Nat):Builtin.Str.occurrences (aB a) (aB y) 0 (aB a).length 1=(Ev.findS y 0 a).toList:=by
 rw[StrLaws.occ_eq,bf];have:=yU a y a 0 0 rfl (by simp) (by simp);simpa using this
def IC {X:Cx}:m9 X "str.index" (oW X.K (Ev.dz .idxs)):=by
 intro pins s σ H x xs v us Q I rx rs q;obtain⟨r,h,a,as,d,h',hr,v1,v2,e,q⟩:=q;cases a with
 |str a=>
  match as,e with
  |[.str b],e=>
   delta Ev.dz at e;dsimp only at e
   obtain⟨e1,y0⟩:=Ev.aI e;subst y0;obtain⟨k,e2,rfl⟩:=Option.map_eq_some_iff.mp e1;simp only[RV]at v1;obtain⟨rfl,hl⟩:=v1;obtain⟨t,rfl⟩:=rx;simp only[aG,RV]at v2;obtain⟨y,w,rfl,⟨rfl,hl2⟩,rfl⟩:=v2;obtain⟨u,rfl,ru⟩:=vals1 rs;obtain⟨t2,rfl⟩:=ru;have ho:=Mg a b;rw[e2]at ho;refine call_gives F.slot_str_index (abr _ _ _) F.entry_str_index (F.args_str_index_2 _ _) (gives_str_index (aB a) (aB b) t t2 k [] ho) ?_;exact⟨.int _,H,I.tok _,⟨_,rfl⟩,q.here (by simp[RV]) hr⟩
 |_=>cases e
def ID {X:Cx}:m9 X "str.partition" (oW X.K (Ev.dz .part)):=by
 intro pins s σ H x xs v us Q I rx rs q;obtain⟨r,h,a,as,d,h',hr,v1,v2,e,q⟩:=q;cases a with
 |str a=>
  match as,e with
  |[.str b],e=>
   delta Ev.dz at e;dsimp only at e
   split at e
   .cases e
   rename_i hb;cases e;simp only[RV]at v1;obtain⟨rfl,hl⟩:=v1;obtain⟨t,rfl⟩:=rx;simp only[aG,RV]at v2;obtain⟨y,w,rfl,⟨rfl,hl2⟩,rfl⟩:=v2;obtain⟨u,rfl,ru⟩:=vals1 rs;obtain⟨t2,rfl⟩:=ru;have ho:=Mg a b;have hy:((aB b).length==0)=false:=by rw[bf];cases b with|nil=>exact absurd rfl hb|cons _ _=>rfl
   refine aaU F.slot_str_partition (abr _ _ _) F.entry_str_partition ?_ (F.args_str_partition_2 _ _);show wpAny _ _ (if ((aB b).length==0)=true then _ else _) _ _ s;rw[hy,Yu aaM];have hlen:∀p∈Ev.gq a b,p.length<=sizeLine:=λp hp=>by
    unfold Ev.gq at hp;split at hp
    .simp only[aaY,acB,or_false]at hp;rcases hp with rfl|rfl|rfl
     .rw[aba];omega
     .exact hl2
     .rw[abb];omega
    .simp only[aaY,acB,or_false]at hp;rcases hp with rfl|rfl|rfl
     .exact hl
     .exact aaW _
     .exact aaW _
   have fin:∀(its:List Value) (k:Nat),Vals ((Ev.gq a b).map λp=>V.str (aB p)) its->EP X pins σ Q (.ref s.heap.objs.size) { s with toks:=k,heap:=s.heap.push { cls:=.type "tuple",data:=.seq its.toArray }}:=λits k hv=>
    ⟨.ref s.heap.objs.size,_,I.laid (t':=k) (o:=.tup ((Ev.gq a b).map λp=>V.str (aB p))) (λb ob q=>FJ _ q) (WE _) ⟨by rw[aaw];unfold Ev.gq;split <;> (show 3<=sizeLine;decide),its,hv,⟨_,aae _ rfl,rfl,_,rfl⟩⟩,rfl,q.tup (aG.Eb hlen) hr (I.hok.fresh (WE _))⟩
   show wpAny _ _ (match Builtin.Str.occurrences (aB a) (aB b) 0 (aB a).length 1 with|i :: _=>_|[]=>_) _ _ s;rw[ho];cases hf:Ev.findS b 0 a with
   |none=>
    have ep:Ev.gq a b=[a,[],[]]:=by unfold Ev.gq;rw[hf]
    rw[ep]at fin;show wpAny _ _ (do rule "str.partition.not-found";let empty <-mkStr Str.empty;ret (<-newTuple [.str (aB a) t,empty,empty])) _ _ s;refine gF (acq (gF (wpAny_mkStr (gF (wpAny_newTuple (uq ⟨_,rfl,fin _ _ (.cons ⟨_,rfl⟩ (.cons ⟨_,rfl⟩ (.cons ⟨_,rfl⟩ .nil)))⟩) (by show 3<=sizeLine;decide))) (by show 0<=sizeLine;decide))))
   |some i=>
    have ep:Ev.gq a b=[a.take i,b,a.drop (i+b.length)]:=by unfold Ev.gq;rw[hf]
    rw[ep]at fin hlen;have e1:Builtin.Str.strSub (aB a) 0 i=aB (a.take i):=by rw[jY];simp
    have e2:Builtin.Str.strSub (aB a) (i+(aB b).length) (aB a).length=aB (a.drop (i+b.length)):=by rw[jY,bf,bf,aau (by rw[abb];omega)]
    show wpAny _ _ (do ret (<-newTuple [<-mkStr (Builtin.Str.strSub (aB a) 0 i),.str (aB b) t2,<-mkStr (Builtin.Str.strSub (aB a) (i+(aB b).length) (aB a).length)])) _ _ s;rw[e1,e2];refine gF (wpAny_mkStr (gF (wpAny_mkStr (gF (wpAny_newTuple (uq ⟨_,rfl,fin _ _ (.cons ⟨_,rfl⟩ (.cons ⟨_,rfl⟩ (.cons ⟨_,rfl⟩ .nil)))⟩) (by show 3<=sizeLine;decide))) (by rw[bf];exact hlen _ (by simp)))) (by rw[bf];exact hlen _ (by simp)))
 |_=>cases e
end Sm
namespace Pv
open Ev (D bJ bx TY BI ME T E Es Eo It S Ss Fn big deep b2i rep bT dO bL aS cut bE cY slots)
def nd{α:Type _}{a b:α}(h:a=b):a=b:=h
inductive V where
 |bz|bl (b:Bool)|int (i:Int)|str (s:List Nat)|tup (l:List V)|lst (l:List V)|bU (l:List V)
inductive Sl where
 |val (v:V)|own (l:List V)|bor (l:List V)|ro (l:List V)
abbrev Fr:=List (Option Sl)
inductive R(α:Type) where
 |ok (a:α) (fr:Fr)
 |bad
noncomputable def R.bind{α β:Type}(r:R α)(f:α->Fr->R β):R β:=
 match r with
 |.ok a h=>f a h
 |.bad=>.bad
@[simp] theorem ak{α β:Type}(a:α)(h:Fr)(f:α->Fr->R β):(R.ok a h).bind f=f a h:=nd rfl
@[simp] theorem DN{α β:Type}(f:α->Fr->R β):(R.bad:R α).bind f=.bad:=nd rfl
def ai{α β:Type}{r:R α}{f:α->Fr->R β}{b:β}{h:Fr}(e:r.bind f=.ok b h):∃a h1,r=.ok a h1/\f a h1=.ok b h:=by
 cases r with
 |ok a h1=>exact⟨a,h1,rfl,e⟩
 |bad=>cases e
noncomputable def R.of{α:Type}(o:Option α)(h:Fr):R α:=match o with
 |some a=>.ok a h
 |none=>.bad
@[simp] theorem ef{α:Type}(a:α)(h:Fr):R.of (some a) h=.ok a h:=nd rfl
def aI{α:Type}{o:Option α}{h h':Fr}{a:α}(e:R.of o h=.ok a h'):o=some a/\h'=h:=by
 cases o with
 |none=>cases e
 |some b=>cases e;exact⟨rfl,rfl⟩
inductive Fl where
 |nx|bk|ct|ret (v:V)
mutual
noncomputable def ofD:D->Option V
 |.bz=>some .bz
 |.bl b=>some (.bl b)
 |.int i=>some (.int i)
 |.str s=>some (.str s)
 |.tup ds=>(vY ds).map .tup
 |.ref _=>none
noncomputable def vY:List D->Option (List V)
 |[]=>some []
 |d :: ds=>(ofD d).bind λv=>(vY ds).map λvs=>v :: vs
end
noncomputable def cO(f:V->V->Option Bool):List V->List V->Option Bool
 |[],[]=>some true
 |x :: xs,y :: ys=>(f x y).bind λb=>(cO f xs ys).bind λc=>some (b&&c)
 |_,_=>some false
noncomputable def dM:Nat->V->V->Option Bool
 |0,_,_=>none
 |_+1,.bz,.bz=>some true
 |_+1,.bl a,.bl b=>some (a==b)
 |_+1,.int a,.int b=>some (a==b)
 |_+1,.bl a,.int b=>some (b2i a==b)
 |_+1,.int a,.bl b=>some (a==b2i b)
 |_+1,.str a,.str b=>some (a==b)
 |n+1,.tup a,.tup b=>cO (dM n) a b
 |n+1,.lst a,.lst b=>cO (dM n) a b
 |n+1,.bU a,.lst b=>cO (dM n) a b
 |n+1,.lst a,.bU b=>cO (dM n) a b
 |_+1,.bU _,.bU _=>none
 |_+1,_,_=>some false
noncomputable def truthy:V->Bool
 |.bz=>false
 |.bl b=>b
 |.int i=>i != 0
 |.str s=>!s.isEmpty
 |.tup ds=>!ds.isEmpty
 |.lst ds=>!ds.isEmpty
 |.bU ds=>!ds.isEmpty
noncomputable def dQ(l:List V):Option V:=if l.length<=big then some (.lst l)else none
noncomputable def iV(l:List V):Option V:=if l.length<=big then some (.tup l)else none
noncomputable def bV:bJ->V->V->Option V
 |.add,.int i,.int j=>some (.int (i+j))
 |.add,.str a,.str b=>if a.length+b.length<=big then some (.str (a++b))else none
 |.add,.tup a,.tup b=>if a.length+b.length<=big then some (.tup (a++b))else none
 |.add,.lst a,.lst b=>dQ (a++b)
 |.sub,.int i,.int j=>some (.int (i - j))
 |.mul,.int i,.int j=>if bT i j then some (.int (i*j))else none
 |.mul,.str a,.int k=>if 0<=k/\k<=1000/\a.length<=1000 then some (.str (rep k.toNat a))else none
 |.mul,.tup a,.int k=>if 0<=k/\k<=1000/\a.length<=1000 then some (.tup (rep k.toNat a))else none
 |.mul,.lst a,.int k=>if 0<=k/\k<=1000/\a.length<=1000 then dQ (rep k.toNat a)else none
 |.fdiv,.int i,.int j=>if 0<j/\j<1073741824 then some (.int (i / j))else none
 |.mod,.int i,.int j=>if 0<j then some (.int (i % j))else none
 |_,_,_=>none
noncomputable def mem(x:V):List V->Option Bool
 |[]=>some false
 |y :: ys=>(dM deep y x).bind λb=>(mem x ys).bind λc=>some (b ||c)
noncomputable def isin(x y:V):Option Bool:=match y with
 |.str s=>match x with
  |.str [c]=>some (s.contains c)
  |_=>none
 |.tup ds=>mem x ds
 |.lst ds=>mem x ds
 |.bU ds=>mem x ds
 |_=>none
noncomputable def cop(o:bx)(x y:V):Option Bool:=match o,x,y with
 |.eq,x,y=>dM deep x y
 |.ne,x,y=>(dM deep x y).map (!·)
 |.lt,.int i,.int j=>some (decide (i<j))
 |.le,.int i,.int j=>some (decide (i<=j))
 |.gt,.int i,.int j=>some (decide (j<i))
 |.ge,.int i,.int j=>some (decide (j<=i))
 |.isin,x,y=>isin x y
 |.fq,x,y=>(isin x y).map (!·)
 |_,_,_=>none
noncomputable def gf(x y:V):Option V:=match x,y with
 |.tup ds,.int i=>bL ds i
 |.str s,.int i=>(bL s i).map λc=>.str [c]
 |.lst ds,.int i=>bL ds i
 |.bU ds,.int i=>bL ds i
 |_,_=>none
noncomputable def eV(x:V)(lo hi:Option Int):Option V:=match x with
 |.tup ds=>some (.tup (cut ds lo hi))
 |.str s=>some (.str (cut s lo hi))
 |.lst ds=>dQ (cut ds lo hi)
 |.bU ds=>dQ (cut ds lo hi)
 |_=>none
noncomputable def toT:V->Option V
 |.tup l=>some (.tup l)
 |.lst l=>iV l
 |.bU l=>iV l
 |_=>none
noncomputable def lJ:V->Option V
 |.tup ds=>some (.tup ds.reverse)
 |.lst ds=>dQ ds.reverse
 |.bU ds=>dQ ds.reverse
 |_=>none
noncomputable def dS:V->TY->Bool
 |.bl _,.bool=>true
 |.bl _,.int=>true
 |.int _,.int=>true
 |.str _,.str=>true
 |.tup _,.tuple=>true
 |.lst _,.list=>true
 |.bU _,.list=>true
 |_,_=>false
noncomputable def boolsOf:List V->Option (List Bool)
 |[]=>some []
 |.bl b :: ds=>(boolsOf ds).map λr=>b :: r
 |_=>none
noncomputable def intsOf:List V->Option (List Int)
 |[]=>some []
 |.int i :: ds=>(intsOf ds).map λr=>i :: r
 |_=>none
noncomputable def strsOf:List V->Option (List (List Nat))
 |[]=>some []
 |.str s :: ds=>(strsOf ds).map λr=>s :: r
 |_=>none
noncomputable def o7:V->Option (List V)
 |.lst l=>some l
 |.bU l=>some l
 |_=>none
noncomputable def cH(b:BI)(xs:List V):Option V:=match b,xs with
 |.len,[.str s]=>if s.length<=big then some (.int s.length)else none
 |.len,[.tup ds]=>some (.int ds.length)
 |.len,[x]=>(o7 x).map λds=>.int ds.length
 |.all,[x]=>((o7 x).bind boolsOf).map λbs=>.bl (bs.all id)
 |.sum,[x]=>((o7 x).bind intsOf).map λis=>.int is.sum
 |.min,[.int i,.int j]=>some (.int (if j<i then j else i))
 |.vv,[.bl b]=>some (.int (if b then 1 else 0))
 |.gO,[.int i]=>if -1000000<i/\i<1000000 then some (.str (Ev.gj i))else none
 |.gO,[.str s]=>some (.str s)
 |.mj,[.str s]=>(Ev.pL s).map .int
 |_,_=>none
noncomputable def dz(m:ME)(o:V)(xs:List V):Option V:=match m,o,xs with
 |.join,.str sep,[x]=>((o7 x).bind strsOf).bind λss=>if (ss.map (·.length)).sum+ss.length*sep.length<=big then some (.str (bE sep ss))else none
 |.part,.str a,[.str y]=>if y=[]then none else some (.tup ((Ev.gq a y).map .str))
 |.idxs,.str a,[.str y]=>(Ev.findS y 0 a).map λ(k:Nat)=>.int k
 |_,_,_=>none
noncomputable def kq(m:ME)(l:List V)(xs:List V):Option (V×List V):=match m,xs with
 |.append,[x]=>if l.length<big then some (.bz,l++[x])else none
 |.extend,[.lst es]=>if l.length+es.length<=big then some (.bz,l++es)else none
 |.pop,[]=>match l[l.length - 1]? with
  |some x=>some (x,l.dropLast)
  |none=>none
 |_,_=>none
noncomputable def B9:ME->Bool
 |.extend=>true
 |_=>false
noncomputable def jg:ME->Bool
 |.append=>true
 |.extend=>true
 |.pop=>true
 |_=>false
noncomputable def uM:V->Bool
 |.bz=>true
 |.bl _=>true
 |.int _=>true
 |.str _=>true
 |_=>false
noncomputable def Aj(x:V):List (D×D)->Option V
 |[]=>none
 | (k,v) :: r=>match (ofD k).bind λk'=>dM 1 k' x with
  |some true=>ofD v
  |some false=>Aj x r
  |none=>none
noncomputable def fJ(x:V)(kvs:List (D×D)):Option V:=if uM x then Aj x kvs else none
noncomputable def gH:V->Option (List V)
 |.tup ds=>some ds
 |.str s=>some (s.map λc=>.str [c])
 |.lst ds=>some ds
 |.bU ds=>some ds
 |_=>none
noncomputable def Ak:V->Option (List V)
 |.tup ds=>some ds
 |_=>none
noncomputable def range(lo:Int)(n:Nat):List V:=(List.range n).map λ(i:Nat)=>.int (lo+i)
noncomputable def eH:List V->Option (List V)
 |[.int j]=>if -(2 ^ 62)<=j/\j<2 ^ 62 then some (range 0 j.toNat)else none
 |[.int i,.int j]=>if -(2 ^ 62)<=i/\i<2 ^ 62/\-(2 ^ 62)<=j/\j<2 ^ 62 then some (range i (j - i).toNat)else none
 |_=>none
noncomputable def pR(x y:V):Option (List V):=match x,y with
 |.str a,.str [c]=>if c<128 then some ((Ev.bC c a).map .str)else none
 |_,_=>none
noncomputable def gZ:Int->List V->List V
 |_,[]=>[]
 |k,x :: xs=>.tup [.int k,x] :: gZ (k+1) xs
noncomputable def put(fr:Fr)(i:Nat)(s:Sl):Option Fr:=match fr[i]? with
 |some (some (.bor _))=>none
 |some (some (.ro _))=>none
 |_=>some (fr.set i (some s))
noncomputable def cW:List Nat->List V->Fr->Option Fr
 |[],[],fr=>some fr
 |i :: is,d :: ds,fr=>(put fr i (.val d)).bind (cW is ds)
 |_,_,_=>none
noncomputable def cJ:T->V->Fr->Option Fr
 |.one i,d,fr=>put fr i (.val d)
 |.many l,.tup ds,fr=>cW l ds fr
 |_,_,_=>none
noncomputable def undef(t:T)(fr:Fr):Bool:=(slots t).all λi=>(fr[i]?.join).isNone
noncomputable def Sl.read:Sl->Sl
 |.own l=>.ro l
 |.bor l=>.ro l
 |s=>s
noncomputable def ue(fr:Fr):Fr:=fr.map (Option.map Sl.read)
noncomputable def Sl.dN:Sl->Sl
 |.own l=>.val (.lst l)
 |s=>s
noncomputable def fK(fr:Fr):Fr:=fr.map (Option.map Sl.dN)
noncomputable def Sl.walk:Sl->Sl
 |.own l=>.val (.lst l)
 |.bor l=>.ro l
 |s=>s
noncomputable def uR(is:List Nat)(fr:Fr):Fr:=is.foldl (λfr i=>match fr[i]? with
 |some (some s)=>fr.set i (some s.walk)
 |_=>fr) fr
noncomputable def Sl.out:Sl->Option (List V)
 |.bor l=>some l
 |.ro l=>some l
 |_=>none
noncomputable def Sl.lend:Sl->Option Sl
 |.own l=>some (.bor l)
 |.bor l=>some (.bor l)
 |.ro l=>some (.ro l)
 |.val _=>none
noncomputable def lent(fr:Fr)(i:Nat):Option Sl:=match fr[i]? with
 |some (some s)=>s.lend
 |_=>none
noncomputable def Sl.with:Sl->List V->Sl
 |.own _,l=>.own l
 |.bor _,l=>.bor l
 |s,_=>s
noncomputable def back:List Nat->List (List V)->Fr->Option Fr
 |[],[],fr=>some fr
 |i :: is,l :: ls,fr=>match fr[i]? with
  |some (some s)=>back is ls (fr.set i (some (s.with l)))
  |_=>none
 |_,_,_=>none
noncomputable def bR(f:V->Option (Option V)):List V->Option (List V)
 |[]=>some []
 |d :: ds=>(f d).bind λo=>(bR f ds).bind λr=>some (o.toList++r)
noncomputable def forL(f:V->Fr->R Fl):List V->Fr->R Fl
 |[],fr=>.ok .nx fr
 |d :: ds,fr=>(f d fr).bind λp ah=>match p with
   |.nx=>forL f ds ah
   |.ct=>forL f ds ah
   |.bk=>.ok .nx ah
   |.ret x=>.ok (.ret x) ah
noncomputable def eW(t:Fr->R Bool)(f:Fr->R Fl):Nat->Fr->R Fl
 |0,_=>.bad
 |n+1,fr=>(t fr).bind λb ah=>if b then (f ah).bind λp aq=>match p with
   |.nx=>eW t f n aq
   |.ct=>eW t f n aq
   |.bk=>.ok .nx aq
   |.ret x=>.ok (.ret x) aq
  else .ok .nx ah
noncomputable def jT:Es->List Nat
 |.nil=>[]
 |.cons (.v i) es=>i :: jT es
 |.cons _ es=>jT es
noncomputable def Uj(m:ME):E->List Nat
 |.v i=>if jg m then [i]else []
 |_=>[]
mutual
noncomputable def bM:E->List Nat
 |.c _=>[]|.v _=>[]|.tup es=>fV es|.lst es=>fV es
 |.bin _ a b=>bM a++bM b|.cmp _ a b=>bM a++bM b
 |.ch _ _ a b c=>bM a++(bM b++bM c)
 |.nt a=>bM a|.neg a=>bM a|.an a b=>bM a++bM b|.orr a b=>bM a++bM b|.iU t a b=>bM t++(bM a++bM b)
 |.ix a b=>bM a++bM b|.sl a lo hi=>bM a++(kR lo++kR hi)
 |.rv a=>bM a
 |.cl _ es=>fV es++jT es|.bi _ es=>fV es|.me m o es=>bM o++(fV es++Uj m o)
 |.gx a _=>bM a
 |.comp _ _ it _=>Ef it
 |.gp it=>Ef it
 |.gP _ a=>bM a
 |.jA a=>bM a
noncomputable def fV:Es->List Nat
 |.nil=>[]
 |.cons e es=>bM e++fV es
noncomputable def kR:Eo->List Nat
 |.no=>[]
 |.yes e=>bM e
noncomputable def Ef:It->List Nat
 |.seq e=>bM e|.gI es=>fV es
 |.jV a b=>bM a++bM b
 |.enum a=>bM a|.rev a=>bM a
end
noncomputable def kf(a:E)(l:List Nat):Bool:=match a with
 |.v i=>!l.contains i
 |_=>l.isEmpty
noncomputable def itv:It->List Nat
 |.seq (.v i)=>[i]
 |.enum (.v i)=>[i]
 |.rev (.v i)=>[i]
 |_=>[]
abbrev aP:=Nat->List Sl->Option (V×List (List V))
noncomputable def intOf:V->Option Int
 |.int i=>some i
 |_=>none
noncomputable def nv(k:Bool)(fr:Fr)(i:Nat):Option V:=match fr[i]? with
 |some (some (.val v))=>some v
 |some (some (.own l))=>if k then some (.lst l)else none
 |some (some (.bor l))=>if k then some (.lst l)else none
 |some (some (.ro l))=>if k then some (.lst l)else none
 |_=>none
noncomputable def Am(k:Bool)(fr:Fr)(i:Nat):Option V:=match fr[i]? with
 |some (some (.ro l))=>some (.lst l)
 |_=>nv k fr i
noncomputable def src(k:Bool)(fr:Fr)(e:E)(r:R V):R V:=match e with
 |.v i=>R.of (Am k fr i) fr
 |_=>r
noncomputable def lM(fr:Fr):E->Option Nat
 |.v i=>if (lent fr i).isSome then some i else none
 |_=>none
noncomputable def args(fr:Fr):List (Nat ⊕ V)->Option (List Sl)
 |[]=>some []
 |.inl i :: r=>(lent fr i).bind λs=>(args fr r).map λl=>s :: l
 |.inr v :: r=>(args fr r).map λl=>.val v :: l
noncomputable def bZ:List (Nat ⊕ V)->List Nat
 |[]=>[]
 |.inl i :: r=>i :: bZ r
 |.inr _ :: r=>bZ r
noncomputable def fW(P:aP)(f:Nat)(as:List (Nat ⊕ V))(fr:Fr):R V:=
 if (bZ as).Nodup then match args fr as with
  |some sl=>match P f sl with
   |some (v,outs)=>R.of ((back (bZ as) outs fr).map λah=>(v,ah)) fr |>.bind λp _=>.ok p.1 p.2
   |none=>.bad
  |none=>.bad
 else .bad
mutual
noncomputable def ev(P:aP):Bool->E->Fr->R V
 |_,.c d,fr=>R.of (ofD d) fr
 |k,.v i,fr=>R.of (nv k fr i) fr
 |_,.tup es,fr=>(cC P false es fr).bind λds ah=>R.of (iV ds) ah
 |_,.lst es,fr=>(cC P false es fr).bind λds ah=>R.of (dQ ds) ah
 |_,.bin o a b,fr=>(ev P (kf a (bM b)) a fr).bind λx ah=>(ev P true b ah).bind λy aq=>R.of (bV o x y) aq
 |_,.cmp o a b,fr=>(ev P (kf a (bM b)) a fr).bind λx ah=>(ev P true b ah).bind λy aq=>R.of ((cop o x y).map .bl) aq
 |_,.ch o p a b c,fr=>(ev P (kf a (bM b)) a fr).bind λx ah=>(ev P (kf b (bM c)) b ah).bind λy aq=>(R.of (cop o x y) aq).bind λk cL=>
   if k then (ev P true c cL).bind λz gT=>R.of ((cop p y z).map .bl) gT else .ok (.bl false) cL
 |_,.nt a,fr=>(ev P true a fr).bind λx ah=>match x with
   |.bl b=>.ok (.bl (!b)) ah
   |_=>.bad
 |_,.neg a,fr=>(ev P true a fr).bind λx ah=>match x with
   |.int i=>.ok (.int (-i)) ah
   |_=>.bad
 |k,.an a b,fr=>(ev P true a fr).bind λx ah=>match x with
   |.bl true=>ev P k b ah
   |.bl false=>.ok (.bl false) ah
   |_=>.bad
 |k,.orr a b,fr=>(ev P true a fr).bind λx ah=>match x with
   |.bl true=>.ok (.bl true) ah
   |.bl false=>ev P k b ah
   |_=>.bad
 |k,.iU t a b,fr=>(aN P t fr).bind λc ah=>if c then ev P k a ah else ev P k b ah
 |_,.ix a b,fr=>(ev P (kf a (bM b)) a fr).bind λx ah=>(ev P true b ah).bind λy aq=>R.of (gf x y) aq
 |_,.sl a lo hi,fr=>(ev P (kf a (kR lo++kR hi)) a fr).bind λx ah=>(gr P lo ah).bind λl aq=>(gr P hi aq).bind λu cL=>R.of (eV x l u) cL
 |_,.rv a,fr=>(ev P true a fr).bind λx ah=>R.of (lJ x) ah
 |_,.cl f es,fr=>(gu P es fr).bind λas ah=>fW P f as ah
 |_,.bi b es,fr=>(cC P true es fr).bind λds ah=>R.of (cH b ds) ah
 |_,.me m o es,fr=>if jg m then match lM fr o with
   |some i=>(cC P (B9 m) es fr).bind λds ah=>match ah[i]? with
    |some (some (.own l))=>match kq m l ds with
     |some (v,l')=>.ok v (ah.set i (some (.own l')))
     |none=>.bad
    |some (some (.bor l))=>match kq m l ds with
     |some (v,l')=>.ok v (ah.set i (some (.bor l')))
     |none=>.bad
    |_=>.bad
   |none=>.bad
  else (ev P (kf o (fV es)) o fr).bind λx ah=>(cC P true es ah).bind λds aq=>R.of (dz m x ds) aq
 |_,.gx a ts,fr=>(ev P true a fr).bind λx ah=>.ok (.bl (ts.any (dS x))) ah
 |_,.comp elt t it cond,fr=>(cT P true it fr).bind λs ah=>if undef t ah then
   R.of ((bR (λd=>match cJ t d (ue ah)with
    |none=>none
    |some aq=>match iK P cond aq with
     |.ok c _=>if c then (match ev P false elt aq with|.ok x _=>some (some x)|.bad=>none)else some none
     |.bad=>none) s).bind dQ) ah else .bad
 |_,.gp it,fr=>(cT P true it fr).bind λs ah=>R.of (dQ s) ah
 |_,.gP kvs a,fr=>(ev P true a fr).bind λx ah=>R.of (fJ x kvs) ah
 |_,.jA a,fr=>(ev P true a fr).bind λx ah=>R.of (toT x) ah
termination_by _ e=>(sizeOf e,0)
noncomputable def cC(P:aP):Bool->Es->Fr->R (List V)
 |_,.nil,fr=>.ok [] fr
 |k,.cons e es,fr=>(ev P (k&&kf e (fV es)) e fr).bind λd ah=>(cC P k es ah).bind λds aq=>.ok (d :: ds) aq
termination_by _ e=>(sizeOf e,0)
noncomputable def gu(P:aP):Es->Fr->R (List (Nat ⊕ V))
 |.nil,fr=>.ok [] fr
 |.cons e es,fr=>match lM fr e with
   |some i=>(gu P es fr).bind λr ah=>.ok (.inl i :: r) ah
   |none=>(ev P false e fr).bind λd ah=>(gu P es ah).bind λr aq=>.ok (.inr d :: r) aq
termination_by e=>(sizeOf e,0)
noncomputable def gr(P:aP):Eo->Fr->R (Option Int)
 |.no,fr=>.ok none fr
 |.yes e,fr=>(ev P true e fr).bind λd ah=>R.of ((intOf d).map some) ah
termination_by e=>(sizeOf e,0)
noncomputable def iK(P:aP):Eo->Fr->R Bool
 |.no,fr=>.ok true fr
 |.yes e,fr=>aN P e fr
termination_by e=>(sizeOf e,0)
noncomputable def aN(P:aP):E->Fr->R Bool
 |.an a b,fr=>(aN P a fr).bind λk ah=>if k then aN P b ah else .ok false ah
 |.orr a b,fr=>(aN P a fr).bind λk ah=>if k then .ok true ah else aN P b ah
 |.nt a,fr=>(aN P a fr).bind λk ah=>.ok (!k) ah
 |e,fr=>(ev P true e fr).bind λx ah=>.ok (truthy x) ah
termination_by e=>(sizeOf e,1)
noncomputable def cT(P:aP):Bool->It->Fr->R (List V)
 |k,.seq e,fr=>(src k fr e (ev P k e fr)).bind λx ah=>R.of (gH x) ah
 |_,.gI es,fr=>(cC P true es fr).bind λds ah=>R.of (eH ds) ah
 |_,.jV a b,fr=>(ev P (kf a (bM b)) a fr).bind λx ah=>(ev P true b ah).bind λy aq=>R.of (pR x y) aq
 |k,.enum a,fr=>(src k fr a (ev P k a fr)).bind λx ah=>R.of ((o7 x).map λs=>gZ 0 s) ah
 |_,.rev a,fr=>(ev P true a fr).bind λx ah=>R.of ((Ak x).map λs=>s.reverse) ah
termination_by _ e=>(sizeOf e,0)
end
noncomputable def isNew:E->Bool
 |.lst _=>true
 |.gp _=>true
 |_=>false
mutual
noncomputable def ex(P:aP)(w:Nat):S->Fr->R Fl
 |.set i e,fr=>(ev P false e fr).bind λx ah=>if isNew e then (match x with
   |.lst l=>(R.of (put ah i (.own l)) ah).bind λaq _=>.ok .nx aq
   |_=>.bad)
  else (R.of (put ah i (.val x)) ah).bind λaq _=>.ok .nx aq
 |.zP l e,fr=>(ev P false e fr).bind λx ah=>(R.of (cJ (.many l) x ah) ah).bind λaq _=>.ok .nx aq
 |.exp e,fr=>(ev P true e fr).bind λ_ ah=>.ok .nx ah
 |.ret e,fr=>(ev P false e (fK fr)).bind λx ah=>.ok (.ret x) ah
 |.iff t a b,fr=>(aN P t fr).bind λk ah=>if k then exs P w a ah else exs P w b ah
 |.for t it b,fr=>(cT P false it (uR (itv it) fr)).bind λs ah=>forL (λd aq=>match cJ t d aq with
   |some cL=>exs P w b cL
   |none=>.bad) s ah
 |.oU t b,fr=>eW (λaq=>aN P t aq) (λaq=>exs P w b aq) w fr
 |.pass,fr=>.ok .nx fr
 |.brk,fr=>.ok .bk fr
 |.cnt,fr=>.ok .ct fr
 |.eS _,_=>.bad
noncomputable def exs(P:aP)(w:Nat):Ss->Fr->R Fl
 |.nil,fr=>.ok .nx fr
 |.cons s ss,fr=>(ex P w s fr).bind λp ah=>match p with
   |.nx=>exs P w ss ah
   |p=>.ok p ah
end
noncomputable def dZ(fn:Fn)(ds:List Sl):Fr:=ds.map some++List.replicate (fn.ns - fn.np) none
noncomputable def outs(np:Nat)(fr:Fr):List (List V):=(fr.take np).filterMap λo=>o.bind Sl.out
noncomputable def Mh(_:Fn)(_:List Sl):Option (V×List (List V)):=none
noncomputable def run(F:List Fn)(w:Nat):Nat->aP
 |0,_,_=>none
 |n+1,f,ds=>match F[f]? with
  |some fn=>if ds.length=fn.np then match exs (run F w n) w fn.body (dZ fn ds)with
    |.ok (.ret v) fr=>some (v,outs fn.np fr)
    |.ok .nx fr=>some (.bz,outs fn.np fr)
    |_=>Mh fn ds
   else none
  |none=>none
def qk(F:List Fn)(w n f:Nat)(ds:List Sl):run F w (n+1) f ds=match F[f]? with
  |some fn=>if ds.length=fn.np then match exs (run F w n) w fn.body (dZ fn ds)with
    |.ok (.ret v) fr=>some (v,outs fn.np fr)
    |.ok .nx fr=>some (.bz,outs fn.np fr)
    |_=>Mh fn ds
   else none
  |none=>none:=nd rfl
end Pv
namespace Pv
open Ev (D O Hh bJ bx TY BI ME T E Es Eo It S Ss Fn big deep b2i rep bT dO bL aS cut bE cY slots bA)
section
variable(h:Hh)(S:Nat->Prop)
mutual
noncomputable def Rep:V->D->Prop
 |.bz,d=>d=.bz
 |.bl b,d=>d=.bl b
 |.int i,d=>d=.int i
 |.str s,d=>d=.str s
 |.tup l,d=>∃ds,d=.tup ds/\av l ds
 |.lst l,d=>∃n ds,d=.ref n/\S n/\h[n]?=some (.lst ds)/\av l ds
 |.bU l,d=>∃n ds,d=.ref n/\S n/\h[n]?=some (.bU ds)/\av l ds
noncomputable def av:List V->List D->Prop
 |[],ds=>ds=[]
 |v :: vs,ds=>∃d es,ds=d :: es/\Rep v d/\av vs es
end
noncomputable def bw:V->D->Prop
 |.lst l,d=>∃n ds,d=.ref n/\h[n]?=some (.lst ds)/\av h S l ds
 |v,d=>Rep h S v d
noncomputable def gv:List V->List D->Prop
 |[],ds=>ds=[]
 |v :: vs,ds=>∃d es,ds=d :: es/\bw h S v d/\gv vs es
end
abbrev U:Nat->Prop:=λ_=>True
section
variable{h h':Hh}{S S':Nat->Prop}
mutual
theorem Rep.mono(f:∀m,S m->h'[m]?=h[m]?)(g:∀m,S m->S' m):∀{v:V}{d:D},Rep h S v d->Rep h' S' v d
 |.bz,_,q=>q
 |.bl _,_,q=>q
 |.int _,_,q=>q
 |.str _,_,q=>q
 |.tup l,_,⟨ds,a,b⟩=>⟨ds,a,av.mono f g b⟩
 |.lst l,_,⟨n,ds,a,b,c,e⟩=>⟨n,ds,a,g n b,by rw[f n b];exact c,av.mono f g e⟩
 |.bU l,_,⟨n,ds,a,b,c,e⟩=>⟨n,ds,a,g n b,by rw[f n b];exact c,av.mono f g e⟩
theorem av.mono(f:∀m,S m->h'[m]?=h[m]?)(g:∀m,S m->S' m):∀{v:List V}{d:List D},av h S v d->av h' S' v d
 |[],_,q=>q
 |_ :: _,_,⟨d,es,a,b,c⟩=>⟨d,es,a,Rep.mono f g b,av.mono f g c⟩
end
def av.nil:av h S [] []:=by simp[av]
def av.cons{v:V}{d:D}{vs:List V}{ds:List D}(a:Rep h S v d)(b:av h S vs ds):av h S (v :: vs) (d :: ds):=by simp only[av];exact⟨d,ds,rfl,a,b⟩
def Rep.top{v:V}{d:D}(q:Rep h S v d):bw h S v d:=by
 cases v<;>first|exact q | (obtain⟨n,ds,a,b,c,e⟩:=q;exact⟨n,ds,a,c,e⟩)
def bw.u{v:V}{d:D}(q:bw h S v d):Rep h U v d:=by
 cases v with
 |lst l=>obtain⟨n,ds,a,b,c⟩:=q;exact⟨n,ds,a,trivial,b,c.mono (λ_ _=>rfl) λ_ _=>trivial⟩
 |_=>exact Rep.mono (S:=S) (λ_ _=>rfl) (λ_ _=>trivial) q
def av.u{v:List V}{d:List D}(q:av h S v d):av h U v d:=q.mono (λ_ _=>rfl) λ_ _=>trivial
theorem bw.mono{v:V}{d:D}(f:∀m,m<h.length->h'[m]?=h[m]?)(k:∀m,S m->m<h.length)(g:∀m,S m->S' m)(q:bw h S v d):bw h' S' v d:=by
 cases v with
 |lst l=>
  obtain⟨n,ds,a,b,c⟩:=q;exact⟨n,ds,a,by rw[f n (List.getElem?_eq_some_iff.mp b).1];exact b,c.mono (λm z=>f m (k m z)) g⟩
 |_=>exact Rep.mono (λm z=>f m (k m z)) g q
theorem av.length:∀{v:List V}{d:List D},av h S v d->v.length=d.length
 |[],_,q=>by simp only[av]at q;subst q;rfl
 |_ :: _,_,q=>by simp only[av]at q;obtain⟨d,es,rfl,_,c⟩:=q;simp[c.length]
theorem av.get:∀{v:List V}{d:List D}{i:Nat}{x:V},av h S v d->v[i]?=some x->∃y,d[i]?=some y/\Rep h S x y
 |[],_,_,_,_,e=>by simp at e
 |_ :: _,_,0,_,q,e=>by
  simp only[av]at q;obtain⟨d,es,rfl,b,_⟩:=q;simp at e;subst e;exact⟨d,by simp,b⟩
 |_ :: _,_,i+1,_,q,e=>by
  simp only[av]at q;obtain⟨d,es,rfl,_,c⟩:=q;obtain⟨y,a,b⟩:=c.get (i:=i) (by simpa using e);exact⟨y,by simpa using a,b⟩
theorem av.append:∀{v w:List V}{d e:List D},av h S v d->av h S w e->av h S (v++w) (d++e)
 |[],_,_,_,a,b=>by simp only[av]at a;subst a;simpa using b
 |_ :: _,_,_,_,a,b=>by
  simp only[av]at a;obtain⟨d,es,rfl,x,y⟩:=a;exact .cons x (y.append b)
theorem av.take:∀{v:List V}{d:List D}(n:Nat),av h S v d->av h S (v.take n) (d.take n)
 |_,_,0,_=>by simp[av]
 |[],_,_+1,a=>by simp only[av]at a;subst a;simp[av]
 |_ :: _,_,n+1,a=>by
  simp only[av]at a;obtain⟨d,es,rfl,x,y⟩:=a;simp only[aaS];exact .cons x (y.take n)
theorem av.drop:∀{v:List V}{d:List D}(n:Nat),av h S v d->av h S (v.drop n) (d.drop n)
 |_,_,0,a=>by simpa using a
 |[],_,_+1,a=>by simp only[av]at a;subst a;simp[av]
 |_ :: _,_,n+1,a=>by
  simp only[av]at a;obtain⟨d,es,rfl,x,y⟩:=a;simp only[abf];exact y.drop n
theorem av.dropLast:∀{v:List V}{d:List D},av h S v d->av h S v.dropLast d.dropLast:=λ{v d} a=>by
 rw[abq,abq,a.length];exact a.take _
theorem av.reverse:∀{v:List V}{d:List D},av h S v d->av h S v.reverse d.reverse
 |[],_,a=>by simp only[av]at a;subst a;simp[av]
 |_ :: _,_,a=>by
  simp only[av]at a;obtain⟨d,es,rfl,x,y⟩:=a;simp only[aak];exact y.reverse.append (.cons x .nil)
theorem av.rep{v:List V}{d:List D}(a:av h S v d):∀k:Nat,av h S (Ev.rep k v) (Ev.rep k d)
 |0=>by simp[Ev.rep,av]
 |k+1=>by
  have z:=av.rep a k;simp only[Ev.rep,Y5,aaI]at z ⊢;exact a.append z
theorem av.cut{v:List V}{d:List D}(a:av h S v d)(lo hi:Option Int):av h S (Ev.cut v lo hi) (Ev.cut d lo hi):=by
 unfold Ev.cut;rw[a.length];exact(a.drop _).take _
theorem av.map{α:Type}{f:α->V}{g:α->D}(q:∀a,Rep h S (f a) (g a)):∀l:List α,av h S (l.map f) (l.map g)
 |[]=>.nil
 |_ :: l=>.cons (q _) (av.map q l)
mutual
theorem Rep.uniq:∀{v w:V}{d:D},Rep h U v d->Rep h U w d->v=w
 |.bz,w,_,a,b=>by simp only[Rep]at a;subst a;cases w<;>simp[Rep]at b<;>rfl
 |.bl _,w,_,a,b=>by simp only[Rep]at a;subst a;cases w<;>simp[Rep]at b<;>rw[b]
 |.int _,w,_,a,b=>by simp only[Rep]at a;subst a;cases w<;>simp[Rep]at b<;>rw[b]
 |.str _,w,_,a,b=>by simp only[Rep]at a;subst a;cases w<;>simp[Rep]at b<;>rw[b]
 |.tup l,w,_,a,b=>by
  simp only[Rep]at a;obtain⟨ds,rfl,a⟩:=a;cases w<;>simp[Rep]at b
  rw[av.uniq a b]
 |.lst l,w,_,a,b=>by
  simp only[Rep]at a;obtain⟨n,ds,rfl,_,a1,a⟩:=a;cases w<;>simp[Rep]at b
  .obtain⟨ds',b1,b⟩:=b;rw[a1]at b1;cases b1;rw[av.uniq a b]
  .obtain⟨ds',b1,b⟩:=b;rw[a1]at b1;cases b1
 |.bU l,w,_,a,b=>by
  simp only[Rep]at a;obtain⟨n,ds,rfl,_,a1,a⟩:=a;cases w<;>simp[Rep]at b
  .obtain⟨ds',b1,b⟩:=b;rw[a1]at b1;cases b1
  .obtain⟨ds',b1,b⟩:=b;rw[a1]at b1;cases b1;rw[av.uniq a b]
theorem av.uniq:∀{v w:List V}{d:List D},av h U v d->av h U w d->v=w
 |[],w,_,a,b=>by simp only[av]at a;subst a;cases w<;>simp[av]at b;rfl
 |x :: xs,w,_,a,b=>by
  simp only[av]at a;obtain⟨d,es,rfl,a1,a2⟩:=a;cases w<;>simp only[av]at b
  .cases b
  obtain⟨d',es',e,b1,b2⟩:=b;cases e;rw[Rep.uniq a1 b1,av.uniq a2 b2]
end
theorem vZ{n:Nat}(f:∀v b,dM n v v=some b->b=true):∀l b,cO (dM n) l l=some b->b=true
 |[],b,e=>by simp[cO]at e;exact e
 |x :: xs,b,e=>by
  simp only[cO,NN]at e;obtain⟨c,e1,c2,e2,e⟩:=e;rw[f x c e1,vZ f xs c2 e2]at e;simpa using e.symm
theorem v8:∀n v b,dM n v v=some b->b=true
 |0,_,_,e=>by cases e
 |n+1,v,b,e=>by
  cases v<;>first|exact vZ (v8 n) _ _ e | (cases e<;>first|rfl|exact beq_self_eq_true _)
theorem v9{n:Nat}(f:∀{v w:V}{d e:D}{b},dM n v w=some b->Rep h U v d->Rep h U w e->Ev.gS h n d e=some b):∀{l m:List V}{ds es:List D}{b},cO (dM n) l m=some b->av h U l ds->av h U m es->Ev.cO (Ev.gS h n) ds es=some b
 |[],[],_,_,b,e,p,q=>by simp only[av]at p q;subst p q;simpa[cO,Ev.cO]using e
 |[],_ :: _,_,_,b,e,p,q=>by simp only[av]at p q;subst p;obtain⟨_,_,rfl,_⟩:=q;simpa[cO,Ev.cO]using e
 |_ :: _,[],_,_,b,e,p,q=>by simp only[av]at p q;subst q;obtain⟨_,_,rfl,_⟩:=p;simpa[cO,Ev.cO]using e
 |x :: xs,y :: ys,_,_,b,e,p,q=>by
  simp only[av]at p q;obtain⟨d,ds,rfl,p1,p2⟩:=p;obtain⟨d',ds',rfl,q1,q2⟩:=q;simp only[cO,NN]at e;obtain⟨c,e1,c2,e2,e⟩:=e;simp[Ev.cO,f e1 p1 q1,v9 f e2 p2 q2];simpa using e
def gR{n:Nat}{ds:List D}(q:h[n]?=some (.lst ds)):bA h n=some ds:=by simp[bA,q]
def ig{n:Nat}{ds:List D}(q:h[n]?=some (.bU ds)):bA h n=some ds:=by simp[bA,q]
theorem j0:∀(n:Nat) {v w:V}{d e:D}{b},dM n v w=some b->Rep h U v d->Rep h U w e->Ev.gS h n d e=some b
  |0,_,_,_,_,_,e,_,_=>by cases e
  |n+1,v,w,d,e,b,x,p,q=>by
    by_cases hr:∃m,d=.ref m/\e=.ref m
    . obtain⟨m,rfl,rfl⟩:=hr;have hvw:=p.uniq q;subst hvw;have hb:=v8 _ _ _ x;subst hb;cases v<;>simp[Rep]at p
      . obtain⟨ds,p1,p2⟩:=p;show Ev.jW _ _ _ _=_;rw[Ev.jW,JP rfl,gR p1];rfl
      . obtain⟨ds,p1,p2⟩:=p;show Ev.jW _ _ _ _=_;rw[Ev.jW,JP rfl,ig p1];rfl
    . cases v<;>cases w<;>simp only[Rep]at p q <;>
      first
      | (subst p;subst q;exact x)
      | (obtain⟨ds,rfl,p⟩:=p;subst q;exact x)
      | (obtain⟨ds,rfl,q⟩:=q;subst p;exact x)
      | (obtain⟨ds,rfl,p⟩:=p;obtain⟨es,rfl,q⟩:=q;exact v9 (λa b c=>j0 n a b c) x p q)
      | (cases x;done)
      | (obtain⟨m,ds,rfl,_,p1,p⟩:=p;obtain⟨k,es,rfl,_,q1,q⟩:=q
         have hne:m≠k:=λz=>hr ⟨m,rfl,by rw[z]⟩;show Ev.jW _ _ _ _=_;rw[Ev.jW,Yu hne,p1,q1];exact v9 (λa b c=>j0 n a b c) x p q)
      | (cases x;obtain⟨m,ds,rfl,_,p1,p⟩:=p;subst q;exact aab (Option.map λ_=>false) (gR p1))
      | (cases x;obtain⟨m,ds,rfl,_,p1,p⟩:=p;subst q;exact aab (Option.map λ_=>false) (ig p1))
      | (cases x;obtain⟨m,ds,rfl,_,p1,p⟩:=p;obtain⟨es,rfl,q⟩:=q;exact aab (Option.map λ_=>false) (gR p1))
      | (cases x;obtain⟨m,ds,rfl,_,p1,p⟩:=p;obtain⟨es,rfl,q⟩:=q;exact aab (Option.map λ_=>false) (ig p1))
      | (cases x;obtain⟨m,ds,rfl,_,q1,q⟩:=q;subst p;exact aab (Option.map λ_=>false) (gR q1))
      | (cases x;obtain⟨m,ds,rfl,_,q1,q⟩:=q;subst p;exact aab (Option.map λ_=>false) (ig q1))
      | (cases x;obtain⟨m,ds,rfl,_,q1,q⟩:=q;obtain⟨es,rfl,p⟩:=p;exact aab (Option.map λ_=>false) (gR q1))
      | (cases x;obtain⟨m,ds,rfl,_,q1,q⟩:=q;obtain⟨es,rfl,p⟩:=p;exact aab (Option.map λ_=>false) (ig q1))
end
structure Al(h:Hh)(S:Nat->Prop)(h':Hh)(S':Nat->Prop):Prop where
 len:h.length<=h'.length
 keep:∀m,m<h.length->h'[m]?=h[m]?
 sub:∀m,S m->S' m
 new:∀m,S' m->S m\/(h.length<=m/\m<h'.length)
section
variable{h h':Hh}{S S':Nat->Prop}
def Al.refl:Al h S h S:=⟨WE _,λ_ _=>rfl,λ_ q=>q,λ_ q=>.inl q⟩
def Al.snoc(o:O):Al h S (h++[o]) (λm=>S m\/m=h.length) where
 len:=by simp
 keep:=λm q=>by rw[Xk q]
 sub:=λ_ q=>.inl q
 new:=λm q=>by
  rcases q with q|q
  .exact .inl q
  .subst q;exact .inr ⟨WE _,by simp⟩
def iN{l:List V}{v:V}{ds:List D}(w:∀m,S m->m<h.length)(e:dQ l=some v)(q:av h S l ds):∃r h' S',Ev.alloc ds h=.ok r h'/\Rep h' S' v r/\Al h S h' S':=by
 unfold dQ at e;split at e
 .rename_i z;cases e;refine⟨.ref h.length,h++[.lst ds],λm=>S m\/m=h.length,by unfold Ev.alloc;rw[JP (by rw[<-q.length];exact z)],?_,Al.snoc _⟩;simp only[Rep];refine⟨h.length,ds,rfl,.inr rfl,by simp,q.mono (λm z=>?_) λ_ z=>.inl z⟩;rw[Xk (w m z)]
 .cases e
def ny{v:V}{l:List V}{d:D}(e:o7 v=some l)(q:bw h S v d):∃n ds,d=.ref n/\bA h n=some ds/\av h S l ds:=by
 cases v<;>simp[o7]at e
 .subst e;simp only[bw]at q;obtain⟨n,ds,rfl,a,b⟩:=q;exact⟨n,ds,rfl,gR a,b⟩
 .subst e;simp only[bw,Rep]at q;obtain⟨n,ds,rfl,_,a,b⟩:=q;exact⟨n,ds,rfl,ig a,b⟩
mutual
theorem nA:∀{d:D}{v:V},ofD d=some v->Rep h S v d
 |.bz,_,e=>by simp[ofD]at e;subst e;simp[Rep]
 |.bl _,_,e=>by simp[ofD]at e;subst e;simp[Rep]
 |.int _,_,e=>by simp[ofD]at e;subst e;simp[Rep]
 |.str _,_,e=>by simp[ofD]at e;subst e;simp[Rep]
 |.ref _,_,e=>by simp[ofD]at e
 |.tup ds,_,e=>by
  simp[ofD]at e;obtain⟨vs,e,rfl⟩:=e;exact⟨ds,rfl,yV e⟩
theorem yV:∀{d:List D}{v:List V},vY d=some v->av h S v d
 |[],_,e=>by simp[vY]at e;subst e;exact .nil
 |d :: ds,_,e=>by
  simp only[vY,NN,gV]at e;obtain⟨v,e1,vs,e2,rfl⟩:=e;exact .cons (nA e1) (yV e2)
end
def av.emp{l:List V}{ds:List D}(q:av h S l ds):ds.isEmpty=l.isEmpty:=by
 have:=q.length;cases l<;>cases ds<;>simp at this ⊢
def Ca{v:V}{d:D}(q:bw h S v d):Ev.truthy h d=some (truthy v):=by
 cases v<;>simp only[bw,Rep]at q
 .subst q;rfl
 .subst q;rfl
 .subst q;rfl
 .subst q;rfl
 .obtain⟨ds,rfl,q⟩:=q;simp only[Ev.truthy,truthy,q.emp]
 .obtain⟨n,ds,rfl,a,q⟩:=q;simp only[Ev.truthy,truthy,gR a,Option.map,q.emp];first|done|rw[a]
 .obtain⟨n,ds,rfl,_,a,q⟩:=q;simp only[Ev.truthy,truthy,ig a,Option.map,q.emp];first|done|rw[a]
def nn{α:Type}{v:α}{p:Prop}(z:none=some v):p:=Option.noConfusion rfl (heq_of_eq z)
def Mi{o:bJ}{x y v:V}{d e:D}(w:∀m,S m->m<h.length)(z:bV o x y=some v)(p:bw h S x d)(q:bw h S y e):∃r h' S',Ev.bV o d e h=.ok r h'/\Rep h' S' v r/\Al h S h' S':=by
 cases o<;>cases x<;>first|exact nn z | (cases y<;>first|exact nn z|skip)
 all_goals (delta bV at z;dsimp only at z;simp only[bw,Rep]at p q)
 .subst p q;cases z;exact⟨_,_,S,rfl,rfl,.refl⟩
 .subst p q;split at z
  .rename_i k;cases z;exact⟨_,_,S,by delta Ev.bV;dsimp only;rw[JP k],rfl,.refl⟩
  .cases z
 .obtain⟨ds,rfl,p⟩:=p;obtain⟨es,rfl,q⟩:=q;split at z
  .rename_i k;cases z;exact⟨_,_,S,by delta Ev.bV;dsimp only;rw[JP (by rw[<-p.length,<-q.length];exact k)],⟨_,rfl,p.append q⟩,.refl⟩
  .cases z
 .obtain⟨n,ds,rfl,a,p⟩:=p;obtain⟨m,es,rfl,b,q⟩:=q
  delta Ev.bV;dsimp only;simp only[a,b]
  exact iN w z (p.append q)
 .subst p q;cases z;exact⟨_,_,S,rfl,rfl,.refl⟩
 .subst p q;split at z
  .rename_i k;cases z;exact⟨_,_,S,by delta Ev.bV;dsimp only;rw[JP k],rfl,.refl⟩
  .cases z
 .subst p q;split at z
  .rename_i k;cases z;exact⟨_,_,S,by delta Ev.bV;dsimp only;rw[JP k],rfl,.refl⟩
  .cases z
 .obtain⟨ds,rfl,p⟩:=p;subst q;split at z
  .rename_i k;cases z;exact⟨_,_,S,by delta Ev.bV;dsimp only;rw[JP (by rw[<-p.length];exact k)],⟨_,rfl,p.rep _⟩,.refl⟩
  .cases z
 .obtain⟨n,ds,rfl,a,p⟩:=p;subst q;split at z
  .rename_i k
   delta Ev.bV;dsimp only;simp only[a]
   rw[JP (by rw[<-p.length];exact k)];exact iN w z (p.rep _)
  .cases z
 .subst p q;split at z
  .rename_i k;cases z;exact⟨_,_,S,by delta Ev.bV;dsimp only;rw[JP k],rfl,.refl⟩
  .cases z
 .subst p q;split at z
  .rename_i k;cases z;exact⟨_,_,S,by delta Ev.bV;dsimp only;rw[JP k],rfl,.refl⟩
  .cases z
theorem qu{x:V}{d:D}(p:Rep h U x d):∀{l:List V}{ds:List D}{b},mem x l=some b->av h U l ds->Ev.mem h d ds=some b
 |[],_,b,e,q=>by simp only[av]at q;subst q;simpa[mem,Ev.mem]using e
 |y :: ys,_,b,e,q=>by
  simp only[av]at q;obtain⟨d',ds,rfl,q1,q2⟩:=q;simp only[mem,NN]at e;obtain⟨c,e1,c2,e2,e⟩:=e;simp[Ev.mem,j0 deep e1 q1 p,qu p e2 q2];simpa using e
def yW{x y:V}{d e:D}{b:Bool}(z:isin x y=some b)(p:Rep h U x d)(q:Rep h U y e):Ev.isin d e h=some b:=by
 cases y<;>simp only[isin,reduceCtorEq]at z<;>simp only[Rep]at q
 .subst q;split at z
  .simp only[Rep]at p;subst p;simpa[Ev.isin]using z
  .cases z
 .obtain⟨ds,rfl,q⟩:=q;simpa[Ev.isin]using qu p z q
 .obtain⟨n,ds,rfl,_,a,q⟩:=q;simpa[Ev.isin,gR a]using qu p z q
 .obtain⟨n,ds,rfl,_,a,q⟩:=q;simpa[Ev.isin,ig a]using qu p z q
def wc{o:bx}{x y:V}{d e:D}{b:Bool}(z:cop o x y=some b)(p:Rep h U x d)(q:Rep h U y e):Ev.cop o d e h=some b:=by
 cases o
 case eq=>delta cop at z;dsimp only at z;delta Ev.cop;dsimp only;exact j0 deep z p q
 case ne=>
  delta cop at z;dsimp only at z;simp only[gV]at z;obtain⟨c,z,rfl⟩:=z
  delta Ev.cop;dsimp only;simp only[j0 deep z p q];rfl
 case isin=>delta cop at z;dsimp only at z;delta Ev.cop;dsimp only;exact yW z p q
 case fq=>
  delta cop at z;dsimp only at z;simp only[gV]at z;obtain⟨c,z,rfl⟩:=z
  delta Ev.cop;dsimp only;simp only[yW z p q];rfl
 all_goals (
  cases x<;>first|exact nn z | (cases y<;>first|exact nn z|skip)
  simp only[Rep]at p q;subst p q;exact z)
def An{l:List V}{ds:List D}{i:Int}{v:V}(e:bL l i=some v)(q:av h S l ds):∃d,bL ds i=some d/\Rep h S v d:=by
 unfold bL at e ⊢;rw[q.length]at e;cases z:dO ds.length i with
 |none=>rw[z]at e;cases e
 |some j=>rw[z]at e;exact q.get e
def Mj{x y v:V}{d e:D}(z:gf x y=some v)(p:bw h S x d)(q:bw h S y e):∃r,Ev.gf d e h=some r/\Rep h S v r:=by
 cases x<;>cases y<;>simp only[gf,reduceCtorEq]at z<;>simp only[bw,Rep]at p q
 .subst p q;simp only[gV]at z;obtain⟨c,z,rfl⟩:=z;exact⟨.str [c],by simp[Ev.gf,z],rfl⟩
 .obtain⟨ds,rfl,p⟩:=p;subst q;simpa[Ev.gf]using An z p
 .obtain⟨n,ds,rfl,a,p⟩:=p;subst q;simpa[Ev.gf,gR a]using An z p
 .obtain⟨n,ds,rfl,_,a,p⟩:=p;subst q;simpa[Ev.gf,ig a]using An z p
def Mk{x v:V}{d:D}{lo hi:Option Int}(w:∀m,S m->m<h.length)(z:eV x lo hi=some v)(p:bw h S x d):∃r h' S',Ev.eV d lo hi h=.ok r h'/\Rep h' S' v r/\Al h S h' S':=by
 cases x<;>simp only[eV,reduceCtorEq]at z<;>simp only[bw,Rep]at p
 .subst p;cases z;exact⟨_,_,S,rfl,rfl,.refl⟩
 .obtain⟨ds,rfl,p⟩:=p;cases z;exact⟨_,_,S,rfl,⟨_,rfl,p.cut _ _⟩,.refl⟩
 .obtain⟨n,ds,rfl,a,p⟩:=p;simp only[Ev.eV,gR a];exact iN w z (p.cut _ _)
 .obtain⟨n,ds,rfl,_,a,p⟩:=p;simp only[Ev.eV,ig a];exact iN w z (p.cut _ _)
def Ml{x v:V}{d:D}(w:∀m,S m->m<h.length)(z:lJ x=some v)(p:bw h S x d):∃r h' S',Ev.lJ d h=.ok r h'/\Rep h' S' v r/\Al h S h' S':=by
 cases x<;>simp only[lJ,reduceCtorEq]at z<;>simp only[bw,Rep]at p
 .obtain⟨ds,rfl,p⟩:=p;cases z;exact⟨_,_,S,rfl,⟨_,rfl,p.reverse⟩,.refl⟩
 .obtain⟨n,ds,rfl,a,p⟩:=p;simp only[Ev.lJ,gR a];exact iN w z p.reverse
 .obtain⟨n,ds,rfl,_,a,p⟩:=p;simp only[Ev.lJ,ig a];exact iN w z p.reverse
def Mm{x v:V}{d:D}(z:toT x=some v)(p:bw h S x d):∃r,Ev.rP d h=.ok r h/\Rep h S v r:=by
 cases x<;>simp only[toT,reduceCtorEq]at z<;>simp only[bw,Rep]at p
 .obtain⟨ds,rfl,p⟩:=p;cases z;exact⟨_,rfl,⟨_,rfl,p⟩⟩
 .obtain⟨n,ds,rfl,a,p⟩:=p;unfold iV at z;split at z
  .rename_i k;cases z;refine⟨.tup ds,?_,⟨_,rfl,p⟩⟩;simp only[Ev.rP,gR a];rw[JP (by rw[<-p.length];exact k)]
  .cases z
 .obtain⟨n,ds,rfl,_,a,p⟩:=p;unfold iV at z;split at z
  .rename_i k;cases z;refine⟨.tup ds,?_,⟨_,rfl,p⟩⟩;simp only[Ev.rP,ig a];rw[JP (by rw[<-p.length];exact k)]
  .cases z
def IE{x:V}{l:List V}{d:D}(z:o7 x=some l)(p:bw h S x d):∃s,Ev.DP h d=some s/\av h S l s.1/\(∀q∈s.2,d=.ref q.1/\bA h q.1=some q.2):=by
 obtain⟨n,ds,rfl,a,q⟩:=ny z p;exact⟨(ds,[(n,ds)]),by simp[Ev.DP,a],q,by simp[a]⟩
def IF{x:V}{d:D}(p:bw h S x d)(t:TY):Ev.dS h d t=dS x t:=by
 cases x<;>simp only[bw,Rep]at p
 .subst p;cases t<;>rfl
 .subst p;cases t<;>rfl
 .subst p;cases t<;>rfl
 .subst p;cases t<;>rfl
 .obtain⟨_,rfl,_⟩:=p;cases t<;>rfl
 .obtain⟨n,ds,rfl,a,p⟩:=p;cases t<;>simp[Ev.dS,dS,gR a]
 .obtain⟨n,ds,rfl,_,a,p⟩:=p;cases t<;>simp[Ev.dS,dS,ig a]
theorem we:∀{l:List V}{ds:List D}{bs},boolsOf l=some bs->av h S l ds->Ev.boolsOf ds=some bs
 |[],_,_,e,q=>by simp only[av]at q;subst q;exact e
 |x :: xs,_,bs,e,q=>by
  cases x<;>simp only[boolsOf,reduceCtorEq,gV]at e
  obtain⟨r,e,rfl⟩:=e;simp only[av,Rep]at q;obtain⟨_,ds,rfl,rfl,q⟩:=q;simp[Ev.boolsOf,we e q]
theorem yX:∀{l:List V}{ds:List D}{bs},intsOf l=some bs->av h S l ds->Ev.intsOf ds=some bs
 |[],_,_,e,q=>by simp only[av]at q;subst q;exact e
 |x :: xs,_,bs,e,q=>by
  cases x<;>simp only[intsOf,reduceCtorEq,gV]at e
  obtain⟨r,e,rfl⟩:=e;simp only[av,Rep]at q;obtain⟨_,ds,rfl,rfl,q⟩:=q;simp[Ev.intsOf,yX e q]
theorem yY:∀{l:List V}{ds:List D}{bs},strsOf l=some bs->av h S l ds->Ev.strsOf ds=some bs
 |[],_,_,e,q=>by simp only[av]at q;subst q;exact e
 |x :: xs,_,bs,e,q=>by
  cases x<;>simp only[strsOf,reduceCtorEq,gV]at e
  obtain⟨r,e,rfl⟩:=e;simp only[av,Rep]at q;obtain⟨_,ds,rfl,rfl,q⟩:=q;simp[Ev.strsOf,yY e q]
def gv.one{v:V}{ds:List D}(q:gv h S [v] ds):∃d,ds=[d]/\bw h S v d:=by
 simp only[gv]at q;obtain⟨d,es,rfl,a,rfl⟩:=q;exact⟨d,rfl,a⟩
def Mn{b:BI}{xs:List V}{v:V}{ds:List D}(w:∀m,S m->m<h.length)(z:cH b xs=some v)(p:gv h S xs ds):∃r h' S',Ev.cH b ds h=.ok r h'/\Rep h' S' v r/\Al h S h' S':=by
 delta cH at z
 rcases xs with _|⟨x,_|⟨y,_|⟨u,xs⟩⟩⟩
 .cases b<;>exact nn z
 .obtain⟨d,rfl,p1⟩:=p.one;cases b
  case len=>
   cases x
   case str s=>
    dsimp only at z;simp only[bw,Rep]at p1;subst p1;split at z
    .rename_i k;cases z;exact⟨_,_,S,by delta Ev.cH;dsimp only;rw[JP k],rfl,.refl⟩
    .cases z
   case tup l=>
    dsimp only at z;simp only[bw,Rep]at p1;obtain⟨es,rfl,p2⟩:=p1;cases z;exact⟨_,_,S,rfl,by simp[Rep,p2.length],.refl⟩
   all_goals
    dsimp only at z;simp only[gV]at z;obtain⟨l,z,rfl⟩:=z;obtain⟨n,es,rfl,a,q⟩:=ny z p1;exact⟨.int es.length,h,S,by delta Ev.cH;dsimp only;simp[a],by simp[Rep,q.length],.refl⟩
  case all=>
   dsimp only at z;simp only[gV,NN]at z;obtain⟨bs,⟨l,z,z2⟩,rfl⟩:=z;obtain⟨n,es,rfl,a,q⟩:=ny z p1;exact⟨_,_,S,by delta Ev.cH;dsimp only;simp only[a,Option.bind,we z2 q];rfl,rfl,.refl⟩
  case sum=>
   dsimp only at z;simp only[gV,NN]at z;obtain⟨bs,⟨l,z,z2⟩,rfl⟩:=z;obtain⟨n,es,rfl,a,q⟩:=ny z p1;exact⟨_,_,S,by delta Ev.cH;dsimp only;simp only[a,Option.bind,yX z2 q];rfl,rfl,.refl⟩
  case min=>cases x<;>exact nn z
  case vv=>
   cases x
   case bl i=>
    dsimp only at z;simp only[bw,Rep]at p1;subst p1;cases z;exact⟨_,_,S,rfl,rfl,.refl⟩
   all_goals exact nn z
  case gO=>
   cases x
   case int i=>
    dsimp only at z;simp only[bw,Rep]at p1;subst p1;split at z
    .rename_i k;cases z;exact⟨_,_,S,by delta Ev.cH;dsimp only;rw[JP k],rfl,.refl⟩
    .cases z
   case str s=>
    dsimp only at z;simp only[bw,Rep]at p1;subst p1;cases z;exact⟨_,_,S,rfl,rfl,.refl⟩
   all_goals exact nn z
  case mj=>
   cases x
   case str s=>
    dsimp only at z;simp only[bw,Rep]at p1;subst p1;obtain⟨i,e,rfl⟩:=Option.map_eq_some_iff.mp z;exact⟨.int i,_,S,by delta Ev.cH;dsimp only;rw[e];rfl,rfl,.refl⟩
   all_goals exact nn z
 .cases b
  case min=>
   cases x
   case int i=>
    cases y
    case int j=>
     dsimp only at z;simp only[gv,bw,Rep]at p;obtain⟨_,_,rfl,rfl,_,_,rfl,rfl,rfl⟩:=p;cases z;exact⟨_,_,S,rfl,rfl,.refl⟩
    all_goals exact nn z
   all_goals exact nn z
  case len=>cases x<;>exact nn z
  case vv=>cases x<;>exact nn z
  case gO=>cases x<;>exact nn z
  case mj=>cases x<;>exact nn z
  all_goals exact nn z
 .cases b
  case min=>cases x <;> (try cases y)<;>exact nn z
  case len=>cases x<;>exact nn z
  case vv=>cases x<;>exact nn z
  case gO=>cases x<;>exact nn z
  case mj=>cases x<;>exact nn z
  all_goals exact nn z
def Mp{m:ME}{o:V}{xs:List V}{v:V}{d:D}{ds:List D}(z:dz m o xs=some v)(hm:jg m=false)(po:bw h S o d)(p:gv h S xs ds):Ev.yw m d h=true/\∃r,Ev.dz m d ds h=.ok r h/\Rep h S v r:=by
 unfold dz at z;split at z
 .obtain⟨d,rfl,p1⟩:=p.one;simp only[bw,Rep]at po;subst po;simp only[NN]at z;obtain⟨ss,⟨l,z,z2⟩,z3⟩:=z;obtain⟨n,es,rfl,a,q⟩:=ny z p1;split at z3
  .rename_i k;cases z3;refine⟨rfl,_,?_,rfl⟩
   delta Ev.dz;dsimp only;simp only[a,Option.bind,yY z2 q]
   rw[JP k]
  .cases z3
 .obtain⟨d',rfl,p1⟩:=p.one;simp only[bw,Rep]at po p1;subst po p1;split at z
  .cases z
  .rename_i hy;cases z;exact⟨rfl,_,by delta Ev.dz;dsimp only;rw[Yu hy],⟨_,rfl,av.map (f:=V.str) (g:=D.str) (λs=>by simp[Rep]) _⟩⟩
 .obtain⟨d',rfl,p1⟩:=p.one;simp only[bw,Rep]at po p1;subst po p1;obtain⟨k,z2,rfl⟩:=Option.map_eq_some_iff.mp z;exact⟨rfl,_,by delta Ev.dz;dsimp only;rw[z2];rfl,rfl⟩
 .cases z
def IG{x:V}{d:D}(f:uM x=true)(p:Rep h U x d):Rep [] U x d:=by
 cases x<;>simp only[uM,aai]at f<;>exact p
def Eg{x:V}{d:D}(p:Rep h U x d):∀{kvs:List (D×D)}{v:V},fJ x kvs=some v->∃r,Ev.fJ d kvs=some r/\Rep h S v r:=by
 intro kvs v z;unfold fJ at z;split at z
 .rename_i f;have p':=IG f p;induction kvs with
  |nil=>cases z
  |cons kv r ih=>
   obtain⟨k,u⟩:=kv;simp only[Aj]at z;simp only[Ev.fJ];split at z
   .rename_i y;simp only[NN]at y;obtain⟨k',y1,y2⟩:=y;rw[j0 1 y2 (nA y1) p'];exact⟨u,rfl,nA z⟩
   .rename_i y;simp only[NN]at y;obtain⟨k',y1,y2⟩:=y;rw[j0 1 y2 (nA y1) p'];exact ih z
   .cases z
 .cases z
def Eh{x:V}{l:List V}{d:D}(z:gH x=some l)(p:bw h S x d):∃s,Ev.gH h d=some s/\av h S l s.1/\(∀q∈s.2,d=.ref q.1/\bA h q.1=some q.2):=by
 cases x<;>simp only[gH,reduceCtorEq]at z<;>simp only[bw,Rep]at p
 .subst p;cases z;exact⟨_,rfl,av.map (f:=λc=>V.str [c]) (g:=λc=>D.str [c]) (λ_=>by simp[Rep]) _,by simp⟩
 .obtain⟨ds,rfl,p⟩:=p;cases z;exact⟨_,rfl,p,by simp⟩
 .obtain⟨n,ds,rfl,a,p⟩:=p;cases z;exact⟨(ds,[(n,ds)]),by simp[Ev.gH,gR a],p,by simp[gR a]⟩
 .obtain⟨n,ds,rfl,_,a,p⟩:=p;cases z;exact⟨(ds,[(n,ds)]),by simp[Ev.gH,ig a],p,by simp[ig a]⟩
def wg(lo:Int)(n:Nat):av h S (range lo n) (Ev.range lo n):=av.map (f:=λ(i:Nat)=>V.int (lo+i)) (g:=λ(i:Nat)=>D.int (lo+i)) (λ_=>by simp[Rep]) _
def Mq{xs l:List V}{ds:List D}(z:eH xs=some l)(p:gv h S xs ds):∃s,Ev.eH ds=some (s,[])/\av h S l s:=by
 unfold eH at z;split at z
 .obtain⟨d,rfl,p1⟩:=p.one;simp only[bw,Rep]at p1;subst p1;split at z
  .rename_i k;cases z;exact⟨_,by simp only[Ev.eH];rw[JP k],wg _ _⟩
  .cases z
 .simp only[gv,bw,Rep]at p;obtain⟨_,_,rfl,rfl,_,_,rfl,rfl,rfl⟩:=p;split at z
  .rename_i k;cases z;exact⟨_,by simp only[Ev.eH];rw[JP k],wg _ _⟩
  .cases z
 .cases z
theorem yZ:∀{a:List V}{ds:List D}(k:Int),av h S a ds->av h S (gZ k a) (Ev.gZ k ds)
 |[],_,_,p=>by simp only[av]at p;subst p;simp[gZ,Ev.gZ,av]
 |x :: xs,_,k,p=>by
  simp only[av]at p;obtain⟨d,ds,rfl,p1,p2⟩:=p;simp only[gZ,Ev.gZ];exact .cons ⟨_,rfl,.cons rfl (.cons p1 .nil)⟩ (yZ _ p2)
end
noncomputable def lI(M B:Nat->Prop)(h:Hh)(S:Nat->Prop):Option Sl->Option D->Prop
 |none,p=>p=none
 |some (.val v),p=>∃d,p=some d/\Rep h S v d
 |some (.own l),p=>∃m ds,p=some (.ref m)/\(M m/\¬ B m)/\h[m]?=some (.lst ds)/\av h S l ds
 |some (.bor l),p=>∃m ds,p=some (.ref m)/\(M m/\B m)/\h[m]?=some (.lst ds)/\av h S l ds
 |some (.ro l),p=>∃m ds,p=some (.ref m)/\¬ M m/\h[m]?=some (.lst ds)/\av h S l ds
noncomputable def iz:Option Sl->Bool
 |some (.own _)=>true
 |some (.bor _)=>true
 |_=>false
noncomputable def y9:Option Sl->Bool
 |some (.bor _)=>true
 |some (.ro _)=>true
 |_=>false
noncomputable def locked(fr:Fr)(i:Nat):Bool:=match fr[i]? with
 |some o=>y9 o
 |none=>false
structure bI(M B:Nat->Prop)(h:Hh)(S:Nat->Prop)(fr:Fr)(aj:Ev.Fr):Prop where
 wS:∀m,S m->m<h.length/\¬ M m/\¬ B m
 wM:∀m,M m->m<h.length
 wB:∀m,B m->m<h.length
 len:fr.length=aj.length
 sl:∀(i:Nat) o p,fr[i]?=some o->aj[i]?=some p->lI M B h S o p
 inj:∀(i j:Nat) o o' m,fr[i]?=some o->fr[j]?=some o'->iz o=true->iz o'=true->aj[i]?=some (some (.ref m))->aj[j]?=some (some (.ref m))->i=j
structure Tk(X:Nat->Prop)(h:Hh)(S:Nat->Prop)(h':Hh)(S':Nat->Prop):Prop where
 len:h.length<=h'.length
 keep:∀m,m<h.length->¬ X m->h'[m]?=h[m]?
 sub:∀m,S m->S' m
 new:∀m,S' m->S m\/(h.length<=m/\m<h'.length)
noncomputable def Xs(M:Nat->Prop)(aj:Ev.Fr)(l:List Nat):Nat->Prop:=λm=>M m/\∃i∈l,aj[i]?=some (some (.ref m))
structure Out(M B:Nat->Prop)(c:List Nat)(h:Hh)(S:Nat->Prop)(fr:Fr)(aj:Ev.Fr)(h':Hh)(S':Nat->Prop)(ah:Fr):Prop where
 f:bI M B h' S' ah aj
 tr:Tk (Xs M aj c) h S h' S'
 lk:∀i,locked ah i=locked fr i
section
variable{M B:Nat->Prop}{h h' h1 h2:Hh}{S S' S1 S2:Nat->Prop}{fr ah aq:Fr}{aj:Ev.Fr}{c c1 c2:List Nat}{v:V}{d:D}{X X1 X2:Nat->Prop}
def bI.get(f:bI M B h S fr aj){i:Nat}{o:Option Sl}(e:fr[i]?=some o):∃p,aj[i]?=some p/\lI M B h S o p:=by
 have h1:=(List.getElem?_eq_some_iff.mp e).1;rw[f.len]at h1;exact⟨aj[i],Uy h1,f.sl i o _ e (Uy h1)⟩
def bI.w(f:bI M B h S fr aj):∀m,S m->m<h.length:=λm q=>(f.wS m q).1
def Al.tr(a:Al h S h' S'):Tk X h S h' S':=⟨a.len,λm q _=>a.keep m q,a.sub,a.new⟩
def Tk.al(t:Tk X h S h' S')(z:∀m,¬ X m):Al h S h' S':=⟨t.len,λm q=>t.keep m q (z m),t.sub,t.new⟩
def Tk.weak(t:Tk X h S h' S')(q:∀m,X m->X1 m):Tk X1 h S h' S':=⟨t.len,λm k z=>t.keep m k λy=>z (q m y),t.sub,t.new⟩
def Tk.trans(a:Tk X1 h S h1 S1)(b:Tk X2 h1 S1 h2 S2):Tk (λm=>X1 m\/X2 m) h S h2 S2 where
 len:=aaa a.len b.len
 keep:=λm q z=>by rw[b.keep m (P6 q a.len) (λy=>z (.inr y)),a.keep m q (λy=>z (.inl y))]
 sub:=λm q=>b.sub m (a.sub m q)
 new:=λm q=>by
  rcases b.new m q with q|⟨q1,q2⟩
  .rcases a.new m q with q|⟨q1,q2⟩
   .exact .inl q
   .exact .inr ⟨q1,P6 q2 b.len⟩
  .exact .inr ⟨aaa a.len q1,q2⟩
theorem Al.trans(a:Al h S h1 S1)(b:Al h1 S1 h2 S2):Al h S h2 S2:=((a.tr (X:=λ_=>False)).trans (b.tr (X:=λ_=>False))).al λm z=>by simp at z
def Tk.refl:Tk X h S h S:=⟨WE _,λ_ _ _=>rfl,λ_ q=>q,λ_ q=>.inl q⟩
def Xs.app{l1 l2:List Nat}{m:Nat}:Xs M aj (l1++l2) m↔Xs M aj l1 m\/Xs M aj l2 m:=by
 unfold Xs;constructor
 .rintro⟨a,i,hi,e⟩;rcases List.mem_append.mp hi with hi|hi
  .exact .inl ⟨a,i,hi,e⟩
  .exact .inr ⟨a,i,hi,e⟩
 .rintro(⟨a,i,hi,e⟩|⟨a,i,hi,e⟩)
  .exact⟨a,i,List.mem_append.mpr (.inl hi),e⟩
  .exact⟨a,i,List.mem_append.mpr (.inr hi),e⟩
def Xs.nil{m:Nat}:¬ Xs M aj [] m:=by rintro⟨_,i,hi,_⟩;simp at hi
def Xs.mono{l1 l2:List Nat}(q:∀i∈l1,i∈l2){m:Nat}:Xs M aj l1 m->Xs M aj l2 m:=λ⟨a,i,hi,e⟩=>⟨a,i,q i hi,e⟩
def Rep.tr(q:Rep h S v d)(f:bI M B h S fr aj)(t:Tk (Xs M aj c) h S h' S'):Rep h' S' v d:=q.mono (λm z=>t.keep m (f.wS m z).1 (λy=>(f.wS m z).2.1 y.1)) t.sub
def av.tr{l:List V}{ds:List D}(q:av h S l ds)(f:bI M B h S fr aj)(t:Tk (Xs M aj c) h S h' S'):av h' S' l ds:=q.mono (λm z=>t.keep m (f.wS m z).1 (λy=>(f.wS m z).2.1 y.1)) t.sub
def bw.tr(q:bw h S v d)(f:bI M B h S fr aj)(t:Tk X h S h' S')(z:∀m,¬ X m):bw h' S' v d:=q.mono (λm k=>t.keep m k (z m)) f.w t.sub
def lI.al{o:Option Sl}{p:Option D}(q:lI M B h S o p)(w:∀m,S m->m<h.length)(a:Al h S h' S'):lI M B h' S' o p:=by
 have k:∀m,S m->h'[m]?=h[m]?:=λm z=>a.keep m (w m z);have g:∀(m:Nat) (ds:List D),h[m]?=some (O.lst ds)->h'[m]?=some (O.lst ds):=λm ds z=>by rw[a.keep m (List.getElem?_eq_some_iff.mp z).1];exact z
 rcases o with _|s
 .exact q
 .cases s with
  |val v=>obtain⟨d,e,q⟩:=q;exact⟨d,e,q.mono k a.sub⟩
  |own l=>obtain⟨m,ds,e,z,y,q⟩:=q;exact⟨m,ds,e,z,g m ds y,q.mono k a.sub⟩
  |bor l=>obtain⟨m,ds,e,z,y,q⟩:=q;exact⟨m,ds,e,z,g m ds y,q.mono k a.sub⟩
  |ro l=>obtain⟨m,ds,e,z,y,q⟩:=q;exact⟨m,ds,e,z,g m ds y,q.mono k a.sub⟩
theorem bI.al(f:bI M B h S fr aj)(a:Al h S h' S'):bI M B h' S' fr aj where
 wS:=λm q=>by
  rcases a.new m q with q|⟨q1,q2⟩
  .exact⟨P6 (f.wS m q).1 a.len,(f.wS m q).2⟩
  .exact⟨q2,λz=>by have:=f.wM m z;omega,λz=>by have:=f.wB m z;omega⟩
 wM:=λm q=>P6 (f.wM m q) a.len
 wB:=λm q=>P6 (f.wB m q) a.len
 len:=f.len
 sl:=λi o p e1 e2=>(f.sl i o p e1 e2).al f.w a
 inj:=f.inj
theorem Out.refl(f:bI M B h S fr aj):Out M B c h S fr aj h S fr:=⟨f,.refl,λ_=>rfl⟩
theorem Out.trans(a:Out M B c1 h S fr aj h1 S1 ah)(b:Out M B c2 h1 S1 ah aj h2 S2 aq):Out M B (c1++c2) h S fr aj h2 S2 aq:=⟨b.f,(a.tr.trans b.tr).weak λm z=>Xs.app.mpr z,λi=>(b.lk i).trans (a.lk i)⟩
theorem Out.al(a:Out M B c h S fr aj h1 S1 ah)(b:Al h1 S1 h2 S2):Out M B c h S fr aj h2 S2 ah:=⟨a.f.al b,(a.tr.trans (b.tr (X:=λ_=>False))).weak (λm z=>by rcases z with z|z;exact z;exact z.elim),a.lk⟩
theorem Out.weak(a:Out M B c h S fr aj h1 S1 ah)(q:∀i∈c,i∈c1):Out M B c1 h S fr aj h1 S1 ah:=⟨a.f,a.tr.weak λm z=>Xs.mono q z,a.lk⟩
noncomputable def gy(k:Bool)(h:Hh)(S:Nat->Prop)(v:V)(d:D):Prop:=if k=true then bw h S v d else Rep h S v d
def gy.of{k:Bool}(q:Rep h S v d):gy k h S v d:=by unfold gy;split;exact q.top;exact q
def gy.t{k:Bool}(q:gy k h S v d):bw h S v d:=by unfold gy at q;split at q;exact q;exact q.top
def gy.n(q:gy false h S v d):Rep h S v d:=by simpa[gy]using q
def bI.slot(f:bI M B h S fr aj){i m:Nat}(e:aj[i]?=some (some (.ref m)))(hm:M m):∃o,fr[i]?=some o/\iz o=true:=by
 have hl:i<fr.length:=by rw[f.len];exact(List.getElem?_eq_some_iff.mp e).1
 refine⟨fr[i],Uy hl,?_⟩;have s:=f.sl i _ _ (Uy hl) e
 revert s
 generalize fr[i]=o
 intro s;rcases o with _|s'
 .cases s
 .cases s' with
  |own l=>rfl
  |bor l=>rfl
  |ro l=>obtain⟨m',ds,e,y,_⟩:=s;cases e;exact absurd hm y
  |val v=>
   obtain⟨d,e,q⟩:=s;cases e;exfalso;cases v<;>simp only[Rep,reduceCtorEq]at q
   .obtain⟨_,e,_⟩:=q;cases e
   .obtain⟨n,ds,e,sn,_⟩:=q;cases e;exact(f.wS _ sn).2.1 hm
   .obtain⟨n,ds,e,sn,_⟩:=q;cases e;exact(f.wS _ sn).2.1 hm
theorem gy.tr{k:Bool}{a:E}(q:gy k h S v d)(f:bI M B h S fr aj)(t:Tk (Xs M aj c) h S h' S')(hk:k=true->kf a c=true)(ha:∀i,a=.v i->aj[i]?.join=some d):gy k h' S' v d:=by
 unfold gy at q ⊢;split at q
 .rename_i e;rw[JP e];have hk:=hk e;have gen:c=[]->bw h' S' v d:=λz=>q.tr f t λm y=>by subst z;exact Xs.nil y
  by_cases hv:∃i,a=.v i
  .obtain⟨i0,rfl⟩:=hv;simp only[kf,acp,List.contains_eq_mem,acG]at hk;cases v
   case lst l=>
    simp only[bw]at q ⊢;obtain⟨n,ds,rfl,b1,b2⟩:=q;refine⟨n,ds,rfl,?_,b2.tr f t⟩;rw[t.keep n (List.getElem?_eq_some_iff.mp b1).1 ?_]
    .exact b1
    .rintro⟨mn,j,hj,ej⟩;have e2:aj[i0]?=some (some (D.ref n)):=by
      have:=ha i0 rfl;cases z:aj[i0]? with
      |none=>rw[z]at this;cases this
      |some p=>rw[z]at this;simp at this;rw[this]
     obtain⟨o1,y1,y2⟩:=f.slot e2 mn;obtain⟨o2,y3,y4⟩:=f.slot ej mn;have:=f.inj i0 j o1 o2 n y1 y3 y2 y4 e2 ej;subst this;exact hk hj
   all_goals exact Rep.tr (show Rep h S _ d from q) f t
  .have:kf a c=c.isEmpty:=by
    cases a<;>first|rfl|exact absurd ⟨_,rfl⟩ hv
   rw[this,List.isEmpty_iff]at hk;exact gen hk
 .rename_i e;rw[Yu e];exact q.tr f t
def II{k:Bool}{i:Nat}(e:nv k fr i=some v)(f:bI M B h S fr aj):∃d,aj[i]?.join=some d/\gy k h S v d:=by
  unfold nv at e;split at e
  . rename_i z;obtain⟨p,e1,q⟩:=f.get z;obtain⟨d,rfl,q⟩:=q;cases e;exact⟨d,by rw[e1];rfl,.of q⟩
  all_goals first
    | (rename_i z
       obtain⟨p,e1,q⟩:=f.get z;obtain⟨m,ds,rfl,_,y,q⟩:=q;split at e
       . rename_i hk;cases e;exact⟨.ref m,by rw[e1];rfl,by unfold gy;rw[JP hk];exact⟨m,ds,rfl,y,q⟩⟩
       . cases e)
    |cases e
def jL{i:Nat}{s:Sl}(e:lent fr i=some s)(f:bI M B h S fr aj):∃m ds l o,fr[i]?=some o/\aj[i]?=some (some (.ref m))/\h[m]?=some (.lst ds)/\av h S l ds/\((s=.bor l/\M m/\iz o=true)\/(s=.ro l/\¬ M m/\o=some (.ro l))):=by
 unfold lent at e;split at e
 .rename_i s' z;obtain⟨p,e1,q⟩:=f.get z;cases s' with
  |val v=>simp[Sl.lend]at e
  |own l=>
   simp[Sl.lend]at e;subst e;obtain⟨m,ds,rfl,y,y1,q⟩:=q;exact⟨m,ds,l,_,z,e1,y1,q,.inl ⟨rfl,y.1,rfl⟩⟩
  |bor l=>
   simp[Sl.lend]at e;subst e;obtain⟨m,ds,rfl,y,y1,q⟩:=q;exact⟨m,ds,l,_,z,e1,y1,q,.inl ⟨rfl,y.1,rfl⟩⟩
  |ro l=>
   simp[Sl.lend]at e;subst e;obtain⟨m,ds,rfl,y,y1,q⟩:=q;exact⟨m,ds,l,_,z,e1,y1,q,.inr ⟨rfl,y,rfl⟩⟩
 .cases e
noncomputable def uf(h:Hh)(S:Nat->Prop)(aj:Ev.Fr):List (Nat ⊕ V)->List D->Prop
 |[],ds=>ds=[]
 |.inl i :: r,ds=>∃d es,ds=d :: es/\aj[i]?=some (some d)/\uf h S aj r es
 |.inr v :: r,ds=>∃d es,ds=d :: es/\Rep h S v d/\uf h S aj r es
noncomputable def nB(h:Hh)(S:Nat->Prop):List Sl->List D->List (List V)->Prop
 |[],_,os=>os=[]
 |.val _ :: sl,ds,os=>∃d es,ds=d :: es/\nB h S sl es os
 |.own _ :: _,_,_=>False
 |_ :: sl,ds,os=>∃d es l r m cs,ds=d :: es/\os=l :: r/\d=.ref m/\h[m]?=some (.lst cs)/\av h S l cs/\nB h S sl es r
noncomputable def qv(P:aP)(P':Ev.aP):Prop:=∀f sl v os,P f sl=some (v,os)->∀(h:Hh) (S B:Nat->Prop) (ds:List D),bI B B h S (sl.map some) (ds.map some)->
 ∃d h' S',P' f ds h=.ok d h'/\Rep h' S' v d/\Tk B h S h' S'/\nB h' S' sl ds os
theorem args_get(f:bI M B h S fr aj):∀{as:List (Nat ⊕ V)}{sl:List Sl}{ds:List D},args fr as=some sl->uf h S aj as ds->sl.length=ds.length/\∀(a:Nat) s d,sl[a]?=some s->ds[a]?=some d->
  (∃i,as[a]?=some (.inl i)/\lent fr i=some s/\aj[i]?=some (some d))\/(∃v,s=.val v/\Rep h S v d)
 |[],sl,ds,e,q=>by
  simp[args]at e;simp only[uf]at q;subst e q;simp
 |.inl i :: r,sl,ds,e,q=>by
  simp only[args,NN,gV]at e;obtain⟨s,e1,l,e2,rfl⟩:=e;obtain⟨d,es,rfl,q1,q⟩:=q;obtain⟨h1,h2⟩:=args_get f e2 q;refine⟨by simp[h1],λa s' d' z1 z2=>?_⟩;cases a with
  |zero=>simp at z1 z2;subst z1 z2;exact .inl ⟨i,by simp,e1,q1⟩
  |succ a=>exact(h2 a s' d' (by simpa using z1) (by simpa using z2)).imp (λ⟨i,k,z⟩=>⟨i,by simpa using k,z⟩) id
 |.inr v :: r,sl,ds,e,q=>by
  simp only[args,gV]at e;obtain⟨l,e2,rfl⟩:=e;obtain⟨d,es,rfl,q1,q⟩:=q;obtain⟨h1,h2⟩:=args_get f e2 q;refine⟨by simp[h1],λa s' d' z1 z2=>?_⟩;cases a with
  |zero=>simp at z1 z2;subst z1 z2;exact .inr ⟨v,rfl,q1⟩
  |succ a=>exact(h2 a s' d' (by simpa using z1) (by simpa using z2)).imp (λ⟨i,k,z⟩=>⟨i,by simpa using k,z⟩) id
theorem iA:∀{as:List (Nat ⊕ V)}{a i:Nat},as[a]?=some (.inl i)->i∈bZ as
 |[],_,_,e=>by simp at e
 |.inl j :: r,0,i,e=>by simp at e;subst e;simp[bZ]
 |.inr j :: r,0,i,e=>by simp at e
 |.inl j :: r,a+1,i,e=>by have:=iA (as:=r) (a:=a) (i:=i) (by simpa using e);simp[bZ,this]
 |.inr j :: r,a+1,i,e=>by have:=iA (as:=r) (a:=a) (i:=i) (by simpa using e);simp[bZ,this]
theorem nC:∀{as:List (Nat ⊕ V)}{a b i:Nat},(bZ as).Nodup->as[a]?=some (.inl i)->as[b]?=some (.inl i)->a=b
 |[],_,_,_,_,e,_=>by simp at e
 |x :: r,0,0,_,_,_,_=>rfl
 |.inr j :: r,0,b+1,i,n,e,_=>by simp at e
 |.inl j :: r,0,b+1,i,n,e,e2=>by
  simp at e;subst e;simp only[bZ,ab1]at n;exact absurd (iA (as:=r) (a:=b) (by simpa using e2)) n.1
 |.inr j :: r,a+1,0,i,n,_,e=>by simp at e
 |.inl j :: r,a+1,0,i,n,e2,e=>by
  simp at e;subst e;simp only[bZ,ab1]at n;exact absurd (iA (as:=r) (a:=a) (by simpa using e2)) n.1
 |.inl j :: r,a+1,b+1,i,n,e1,e2=>by
  simp only[bZ,ab1]at n;have:=nC (as:=r) (a:=a) (b:=b) (i:=i) n.2 (by simpa using e1) (by simpa using e2);omega
 |.inr j :: r,a+1,b+1,i,n,e1,e2=>by
  simp only[bZ]at n;have:=nC (as:=r) (a:=a) (b:=b) (i:=i) n (by simpa using e1) (by simpa using e2);omega
def Ei{s:Sl}{l:List V}:iz (some (s.with l))=iz (some s):=by cases s<;>rfl
def za{s:Sl}{l:List V}:y9 (some (s.with l))=y9 (some s):=by cases s<;>rfl
theorem wj:∀{is:List Nat}{ls:List (List V)}{fr ah:Fr},back is ls fr=some ah->is.Nodup->ah.length=fr.length/\(∀i,i∉is->ah[i]?=fr[i]?)/\∀i∈is,∃(k:Nat) (s:Sl) (l:List V),is[k]?=some i/\ls[k]?=some l/\fr[i]?=some (some s)/\ah[i]?=some (some (s.with l))
 |[],[],fr,ah,e,_=>by simp[back]at e;subst e;simp
 |[],_ :: _,_,_,e,_=>by simp[back]at e
 |_ :: _,[],_,_,e,_=>by simp[back]at e
 |i :: is,l :: ls,fr,ah,e,n=>by
  simp only[back]at e;simp only[ab1]at n;split at e
  .rename_i s z;obtain⟨h1,h2,h3⟩:=wj e n.2;refine⟨by simpa using h1,λj hj=>?_,λj hj=>?_⟩
   .simp at hj;rw[h2 j hj.2,WD (λq=>hj.1 q.symm)]
   .rcases List.mem_cons.mp hj with rfl|hj
    .exact⟨0,s,l,by simp,by simp,z,by rw[h2 j n.1,Y6 (List.getElem?_eq_some_iff.mp z).1]⟩
    .obtain⟨k,s',l',a,b,c,d⟩:=h3 j hj;have hne:i≠j:=λq=>n.1 (q▸hj);rw[WD hne]at c;exact⟨k+1,s',l',by simpa using a,by simpa using b,c,d⟩
  .cases e
theorem nD(f:bI M B h S fr aj):∀{as:List (Nat ⊕ V)}{sl:List Sl}{ds:List D}{os:List (List V)},args fr as=some sl->uf h S aj as ds->nB h' S' sl ds os->
  ∀(k i:Nat) l,(bZ as)[k]?=some i->os[k]?=some l->∃m cs,aj[i]?=some (some (.ref m))/\h'[m]?=some (.lst cs)/\av h' S' l cs
 |[],sl,ds,os,e,q,o=>by simp[bZ]
 |.inl i :: r,sl,ds,os,e,q,o=>by
  simp only[args,NN,gV]at e;obtain⟨s,e1,l,e2,rfl⟩:=e;obtain⟨d,es,rfl,q1,q⟩:=q;obtain⟨m,cs,l0,o0,_,z2,z3,z4,z5⟩:=jL e1 f;have key:∃l1 r1 cs,os=l1 :: r1/\h'[m]?=some (.lst cs)/\av h' S' l1 cs/\nB h' S' l es r1:=by
   rw[q1]at z2;cases z2;rcases z5 with ⟨rfl,_⟩|⟨rfl,_⟩
   .obtain⟨d',es',l1,r1,m1,Cb,a1,a2,a3,a4,a5,a6⟩:=o;cases a1;cases a3;exact⟨l1,r1,Cb,a2,a4,a5,a6⟩
   .obtain⟨d',es',l1,r1,m1,Cb,a1,a2,a3,a4,a5,a6⟩:=o;cases a1;cases a3;exact⟨l1,r1,Cb,a2,a4,a5,a6⟩
  obtain⟨l1,r1,Cb,rfl,a4,a5,a6⟩:=key;intro k j l' y1 y2;cases k with
  |zero=>simp[bZ]at y1 y2;subst y1 y2;exact⟨m,Cb,z2,a4,a5⟩
  |succ k=>exact nD f e2 q a6 k j l' (by simpa[bZ]using y1) (by simpa using y2)
 |.inr v :: r,sl,ds,os,e,q,o=>by
  simp only[args,gV]at e;obtain⟨l,e2,rfl⟩:=e;obtain⟨d,es,rfl,q1,q⟩:=q;obtain⟨d',es',a1,a2⟩:=o;cases a1;intro k j l' y1 y2;exact nD f e2 q a2 k j l' (by simpa[bZ]using y1) y2
theorem mw:∀{as:List (Nat ⊕ V)}{sl:List Sl}{i:Nat},args fr as=some sl->i∈bZ as->∃s,lent fr i=some s
 |[],_,_,_,q=>by simp[bZ]at q
 |.inl j :: r,_,i,z,q=>by
  simp only[args,NN,gV]at z;obtain⟨s,e1,l,e2,rfl⟩:=z;simp[bZ]at q;rcases q with rfl|q
  .exact⟨s,e1⟩
  .exact mw e2 q
 |.inr u :: r,_,i,z,q=>by
  simp only[args,gV]at z;obtain⟨l,e2,rfl⟩:=z;exact mw e2 (by simpa[bZ]using q)
noncomputable def LB(fr:Fr)(aj:Ev.Fr)(as:List (Nat ⊕ V)):Nat->Prop:=λm=>∃(i:Nat) (o:Option Sl),i∈bZ as/\fr[i]?=some o/\iz o=true/\aj[i]?=some (some (.ref m))
theorem LB.m(f:bI M B h S fr aj){as:List (Nat ⊕ V)}:∀m,LB fr aj as m->M m:=λm ⟨i,o,_,a,b,c⟩=>by
  have s:=f.sl i o _ a c;rcases o with _|s'
  .cases b
  .cases s' with
   |val v=>cases b
   |ro l=>cases b
   |own l=>obtain⟨m',ds',e,y,_⟩:=s;cases e;exact y.1
   |bor l=>obtain⟨m',ds',e,y,_⟩:=s;cases e;exact y.1
def IJ(f:bI M B h S fr aj){as:List (Nat ⊕ V)}{sl:List Sl}{ds:List D}(nd:(bZ as).Nodup)(z:args fr as=some sl)(q:uf h S aj as ds):bI (LB fr aj as) (LB fr aj as) h S (sl.map some) (ds.map some):=by
 have o8:=LB.m f (as:=as);obtain⟨hl,hg⟩:=args_get f z q;refine⟨λm y=>⟨(f.wS m y).1,λz=>(f.wS m y).2.1 (o8 m z),λz=>(f.wS m y).2.1 (o8 m z)⟩,λm y=>f.wM m (o8 m y),λm y=>f.wM m (o8 m y),by simp[hl],λa o p y1 y2=>?_,λa b o o' m y1 y2 y3 y4 y5 y6=>?_⟩
 .simp at y1 y2;obtain⟨s,y1,rfl⟩:=y1;obtain⟨d,y2,rfl⟩:=y2;rcases hg a s d y1 y2 with ⟨i,k1,k2,k3⟩|⟨u,rfl,k⟩
  .obtain⟨m,cs,l0,o0,w1,w2,w3,w4,w5⟩:=jL k2 f;rw[k3]at w2;cases w2;rcases w5 with ⟨rfl,w6,w7⟩|⟨rfl,w6,w7⟩
   .exact⟨m,cs,rfl,⟨⟨i,o0,iA k1,w1,w7,k3⟩,⟨i,o0,iA k1,w1,w7,k3⟩⟩,w3,w4⟩
   .exact⟨m,cs,rfl,λz=>w6 (o8 m z),w3,w4⟩
  .exact⟨d,rfl,k⟩
 .simp at y1 y2 y5 y6;obtain⟨s,y1,rfl⟩:=y1;obtain⟨s',y2,rfl⟩:=y2;rcases hg a s _ y1 y5 with ⟨i,k1,k2,k3⟩|⟨u,rfl,k⟩
  .rcases hg b s' _ y2 y6 with ⟨j,k4,k5,k6⟩|⟨u,rfl,k⟩
   .obtain⟨m1,_,l1,o1,w1,w2,_,_,w5⟩:=jL k2 f;obtain⟨m2,_,l2,o2,x1,x2,_,_,x5⟩:=jL k5 f;have i1:iz o1=true:=by rcases w5 with ⟨_,_,w7⟩|⟨rfl,_,_⟩;exact w7;cases y3
    have i2:iz o2=true:=by rcases x5 with ⟨_,_,w7⟩|⟨rfl,_,_⟩;exact w7;cases y4
    have:=f.inj i j o1 o2 m w1 x1 i1 i2 k3 k6;subst this;exact nC nd k1 k4
   .cases y4
  .cases y3
def Ej{P:aP}{P':Ev.aP}(HP:qv P P'){g:Nat}{as:List (Nat ⊕ V)}{ds:List D}(e:fW P g as fr=.ok v ah)(f:bI M B h S fr aj)(q:uf h S aj as ds) :
  ∃d h' S',P' g ds h=.ok d h'/\Rep h' S' v d/\Out M B (bZ as) h S fr aj h' S' ah:=by
 unfold fW at e;split at e
 case isFalse=>cases e
 rename_i nd;cases z:args fr as with
 |none=>rw[z]at e;cases e
 |some sl=>
 rw[z]at e;simp only at e;cases z2:P g sl with
 |none=>rw[z2]at e;cases e
 |some vo=>
 obtain⟨v',os⟩:=vo;rw[z2]at e;simp only at e;cases z3:back (bZ as) os fr with
 |none=>rw[z3]at e;cases e
 |some aq=>
 rw[z3]at e;simp at e;obtain⟨rfl,rfl⟩:=e;obtain⟨hl,hg⟩:=args_get f z q
 let B0:Nat->Prop:=LB fr aj as
 have o8:∀m,B0 m->M m:=LB.m f;have F0:bI B0 B0 h S (sl.map some) (ds.map some):=IJ f nd z q;obtain⟨d,h',S',c1,c2,c3,c4⟩:=HP g sl v' os z2 h S B0 ds F0;obtain⟨b1,b2,b3⟩:=wj z3 nd;have hL:=nD f z q c4;have qw:∀m,S m->h'[m]?=h[m]?:=λm y=>c3.keep m (f.wS m y).1 (λz=>(f.wS m y).2.1 (o8 m z));refine⟨d,h',S',c1,c2,⟨?_,?_,?_⟩⟩
 .refine⟨λm y=>?_,λm y=>P6 (f.wM m y) c3.len,λm y=>P6 (f.wB m y) c3.len,by rw[b1,f.len],λi o p y1 y2=>?_,λi j o o' m y1 y2 y3 y4 y5 y6=>?_⟩
  .rcases c3.new m y with y|⟨y1,y2⟩
   .exact⟨P6 (f.wS m y).1 c3.len,(f.wS m y).2⟩
   .exact⟨y2,λz=>by have:=f.wM m z;omega,λz=>by have:=f.wB m z;omega⟩
  .by_cases hi:i∈bZ as
   .obtain⟨k,s,l,w1,w2,w3,w4⟩:=b3 i hi;rw[w4]at y1;cases y1;obtain⟨m,cs,x1,x2,x3⟩:=hL k i l w1 w2;rw[x1]at y2;cases y2;have old:=f.sl i _ _ w3 x1;cases s with
    |val u=>
     exfalso;have:∃s,lent fr i=some s:=mw z hi;obtain⟨s,hs⟩:=this;simp[lent,w3,Sl.lend]at hs
    |own u=>obtain⟨m',ds',e,y,_⟩:=old;cases e;exact⟨m,cs,rfl,y,x2,x3⟩
    |bor u=>obtain⟨m',ds',e,y,_⟩:=old;cases e;exact⟨m,cs,rfl,y,x2,x3⟩
    |ro u=>
     obtain⟨m',ds',e,y,y1,y2⟩:=old;cases e;refine⟨m,ds',rfl,y,?_,y2.mono qw c3.sub⟩;rw[c3.keep m (List.getElem?_eq_some_iff.mp y1).1 (λz=>y (o8 m z))];exact y1
   .rw[b2 i hi]at y1;have old:=f.sl i o p y1 y2;rcases o with _|s
    .exact old
    .cases s with
     |val u=>obtain⟨d,e,q⟩:=old;exact⟨d,e,q.mono qw c3.sub⟩
     |own u=>
      obtain⟨m,ds',rfl,w1,w2,w3⟩:=old;refine⟨m,ds',rfl,w1,?_,w3.mono qw c3.sub⟩;rw[c3.keep m (f.wM m w1.1) (λ⟨j,o2,x1,x2,x3,x4⟩=>hi (f.inj i j _ o2 m y1 x2 rfl x3 y2 x4▸x1))];exact w2
     |bor u=>
      obtain⟨m,ds',rfl,w1,w2,w3⟩:=old;refine⟨m,ds',rfl,w1,?_,w3.mono qw c3.sub⟩;rw[c3.keep m (f.wM m w1.1) (λ⟨j,o2,x1,x2,x3,x4⟩=>hi (f.inj i j _ o2 m y1 x2 rfl x3 y2 x4▸x1))];exact w2
     |ro u=>
      obtain⟨m,ds',rfl,w1,w2,w3⟩:=old;refine⟨m,ds',rfl,w1,?_,w3.mono qw c3.sub⟩;rw[c3.keep m (List.getElem?_eq_some_iff.mp w2).1 (λz=>w1 (o8 m z))];exact w2
  .have kind:∀(i:Nat) o,aq[i]?=some o->iz o=true->∃o0,fr[i]?=some o0/\iz o0=true:=λi o w1 w2=>by
    by_cases hi:i∈bZ as
    .obtain⟨k,s,l,x1,x2,x3,x4⟩:=b3 i hi;rw[x4]at w1;cases w1;exact⟨_,x3,by rw[Ei]at w2;exact w2⟩
    .rw[b2 i hi]at w1;exact⟨o,w1,w2⟩
   obtain⟨oi,k1,k2⟩:=kind i o y1 y3;obtain⟨oj,k3,k4⟩:=kind j o' y2 y4;exact f.inj i j oi oj m k1 k3 k2 k4 y5 y6
 .exact c3.weak λm z=>⟨o8 m z,by obtain⟨i,o,a1,a2,a3,a4⟩:=z;exact⟨i,a1,a4⟩⟩
 .intro i;unfold locked;by_cases hi:i∈bZ as
  .obtain⟨k,s,l,x1,x2,x3,x4⟩:=b3 i hi;rw[x3,x4];exact za
  .rw[b2 i hi]
end
end Pv
namespace Pv
open Ev (D O Hh)
end Pv
namespace Pv
open Ev (D O Hh bJ bx TY BI ME T E Es Eo It S Ss Fn big deep b2i rep bT dO bL aS cut bE cY slots bA)
section
variable{M B:Nat->Prop}{h h' h1 h2:Hh}{S S' S1 S2:Nat->Prop}{fr ah aq:Fr}{aj:Ev.Fr}{c:List Nat}{v:V}{d:D}
def lN{n m:Nat}{o:O}(q:n≠m):(h.set n o)[m]?=h[m]?:=WD q
def bI.mM(f:bI M B h S fr aj){i n:Nat}{o:Option Sl}(e:fr[i]?=some o)(hM:iz o=true)(e':aj[i]?=some (some (.ref n))):M n:=by
 have s:=f.sl i o _ e e';rcases o with _|s'
 .cases hM
 .cases s' with
  |val v=>cases hM
  |ro l=>cases hM
  |own l=>obtain⟨m',ds',e,y,_⟩:=s;cases e;exact y.1
  |bor l=>obtain⟨m',ds',e,y,_⟩:=s;cases e;exact y.1
def bI.write(f:bI M B h S fr aj){i n:Nat}{s:Sl}{l':List V}{ds':List D}(e:fr[i]?=some (some s))(hM:iz (some s)=true)(e':aj[i]?=some (some (.ref n)))(q:av h S l' ds') :
  bI M B (h.set n (.lst ds')) S (fr.set i (some (s.with l'))) aj:=by
 have mn:=f.mM e hM e';have kp:∀m,S m->(h.set n (.lst ds'))[m]?=h[m]?:=λm z=>lN λy=>(f.wS m z).2.1 (y▸mn);have il:=(List.getElem?_eq_some_iff.mp e).1;refine⟨λm y=>by simpa using f.wS m y,λm y=>by simpa using f.wM m y,λm y=>by simpa using f.wB m y,by simp[f.len],λj o p y1 y2=>?_,λj k o o' m y1 y2 y3 y4 y5 y6=>?_⟩
 .by_cases hj:i=j
  .subst hj;rw[Y6 il]at y1;cases y1;rw[e']at y2;cases y2;have old:=f.sl i _ _ e e';have hn:(h.set n (.lst ds'))[n]?=some (.lst ds'):=Y6 (f.wM n mn);cases s with
   |val v=>cases hM
   |ro l=>cases hM
   |own l=>obtain⟨m',_,e,y,_⟩:=old;cases e;exact⟨n,ds',rfl,y,hn,q.mono kp λ_ z=>z⟩
   |bor l=>obtain⟨m',_,e,y,_⟩:=old;cases e;exact⟨n,ds',rfl,y,hn,q.mono kp λ_ z=>z⟩
  .rw[WD hj]at y1;have old:=f.sl j o p y1 y2;rcases o with _|s'
   .exact old
   .cases s' with
    |val u=>obtain⟨d,e,q⟩:=old;exact⟨d,e,q.mono kp λ_ z=>z⟩
    |own u=>
     obtain⟨m,es,rfl,w1,w2,w3⟩:=old;refine⟨m,es,rfl,w1,?_,w3.mono kp λ_ z=>z⟩;rw[lN λ(z:n=m)=>hj (f.inj i j _ _ n e y1 hM rfl e' (by rw[z];exact y2))];exact w2
    |bor u=>
     obtain⟨m,es,rfl,w1,w2,w3⟩:=old;refine⟨m,es,rfl,w1,?_,w3.mono kp λ_ z=>z⟩;rw[lN λ(z:n=m)=>hj (f.inj i j _ _ n e y1 hM rfl e' (by rw[z];exact y2))];exact w2
    |ro u=>
     obtain⟨m,es,rfl,w1,w2,w3⟩:=old;refine⟨m,es,rfl,w1,?_,w3.mono kp λ_ z=>z⟩;rw[lN λ(z:n=m)=>w1 (z▸mn)];exact w2
 .have kind:∀(j:Nat) o,(fr.set i (some (s.with l')))[j]?=some o->iz o=true->∃o0,fr[j]?=some o0/\iz o0=true:=λj o w1 w2=>by
   by_cases hj:i=j
   .subst hj;exact⟨_,e,hM⟩
   .rw[WD hj]at w1;exact⟨o,w1,w2⟩
  obtain⟨oi,k1,k2⟩:=kind j o y1 y3;obtain⟨oj,k3,k4⟩:=kind k o' y2 y4;exact f.inj j k oi oj m k1 k3 k2 k4 y5 y6
def Mr{m:ME}{l l':List V}{xs:List V}{n:Nat}{ds es:List D}(z:kq m l xs=some (v,l'))(e:h[n]?=some (.lst ds))(q:av h S l ds)(p:gv h S xs es)(p':B9 m=false->av h S xs es)(hS:∀k,S k->k≠n) :
  ∃r ds',Ev.dz m (.ref n) es h=.ok r (h.set n (.lst ds'))/\Rep h S v r/\av h S l' ds':=by
 unfold kq at z;split at z
 .have p':=p' rfl;split at z
  .rename_i k;cases z;simp only[av]at p';obtain⟨d,_,rfl,p1,rfl⟩:=p';refine⟨_,_,?_,rfl,q.append (.cons p1 .nil)⟩
   delta Ev.dz;dsimp only;simp only[e]
   rw[JP (by rw[<-q.length];exact k)]
  .cases z
 .split at z
  .rename_i k;cases z;obtain⟨d,rfl,p1⟩:=p.one;simp only[bw]at p1;obtain⟨n2,cs,rfl,e2,p1⟩:=p1;refine⟨_,_,?_,rfl,q.append p1⟩
   delta Ev.dz;dsimp only;simp only[e,e2]
   rw[JP (by rw[<-q.length,<-p1.length];exact k)]
  .cases z
 .simp only[gv]at p;subst p;split at z
  .rename_i x y;cases z;obtain⟨d,k1,k2⟩:=q.get y;refine⟨d,_,?_,k2,q.dropLast⟩
   delta Ev.dz;dsimp only;simp only[e]
   rw[<-q.length,k1]
  .cases z
 .cases z
theorem bI.set(f:bI M B h S fr aj){i:Nat}(e:put fr i (.val v)=some ah)(q:Rep h S v d):bI M B h S ah (aj.set i (some d))/\(∀j,locked ah j=locked fr j)/\∀j,locked fr j=true->(aj.set i (some d))[j]?=aj[j]?:=by
 have hx:ah=fr.set i (some (.val v))/\locked fr i=false:=by
  unfold put at e;unfold locked;split at e
  .cases e
  .cases e
  .rename_i k1 k2;cases e;refine⟨rfl,?_⟩;cases z:fr[i]? with
   |none=>rfl
   |some o=>
    rcases o with _|s
    .rfl
    .cases s with
     |bor l=>exact absurd z (k1 l)
     |ro l=>exact absurd z (k2 l)
     |_=>rfl
 obtain⟨rfl,hk⟩:=hx;have lk:∀j,locked (fr.set i (some (.val v))) j=locked fr j:=λj=>by
  by_cases hj:i=j
  .subst hj;rw[hk];unfold locked;by_cases hl:i<fr.length
   .rw[Y6 hl];rfl
   .rw[aah (by simpa using hl)]
  .unfold locked;rw[WD hj]
 refine⟨⟨f.wS,f.wM,f.wB,by simp[f.len],λj o p y1 y2=>?_,λj k o o' m y1 y2 y3 y4 y5 y6=>?_⟩,lk,λj hj=>?_⟩
 .by_cases hj:i=j
  .subst hj;have hl:i<fr.length:=by have:=(List.getElem?_eq_some_iff.mp y1).1;simpa using this
   rw[Y6 hl]at y1;rw[Y6 (by rw[<-f.len];exact hl)]at y2;cases y1;cases y2;exact⟨d,rfl,q⟩
  .rw[WD hj]at y1 y2;exact f.sl j o p y1 y2
 .have hn:∀(j:Nat) o,(fr.set i (some (.val v)))[j]?=some o->iz o=true->i≠j:=λj o w1 w2 w3=>by
   subst w3;have hl:i<fr.length:=by have:=(List.getElem?_eq_some_iff.mp w1).1;simpa using this
   rw[Y6 hl]at w1;cases w1;cases w2
  have n1:=hn j o y1 y3;have n2:=hn k o' y2 y4;rw[WD n1]at y1 y5;rw[WD n2]at y2 y6;exact f.inj j k o o' m y1 y2 y3 y4 y5 y6
 .have:i≠j:=λz=>by subst z;rw[hk]at hj;cases hj
  rw[WD this]
theorem bI.cW:∀{is:List Nat}{vs:List V}{ds:List D}{fr ah:Fr}{aj:Ev.Fr},bI M B h S fr aj->cW is vs fr=some ah->av h S vs ds->∃bW,Ev.cW is ds aj=some bW/\bI M B h S ah bW/\(∀j,locked ah j=locked fr j)/\∀j,locked fr j=true->bW[j]?=aj[j]?
 |[],[],ds,fr,ah,aj,f,e,q=>by
  simp[Pv.cW]at e;simp only[av]at q;subst e q;exact⟨aj,rfl,f,λ_=>rfl,λ_ _=>rfl⟩
 |[],_ :: _,_,_,_,_,_,e,_=>by simp[Pv.cW]at e
 |_ :: _,[],_,_,_,_,_,e,_=>by simp[Pv.cW]at e
 |i :: is,v :: vs,ds,fr,ah,aj,f,e,q=>by
  simp only[Pv.cW,NN]at e;obtain⟨aq,e1,e2⟩:=e;simp only[av]at q;obtain⟨d,es,rfl,q1,q2⟩:=q;obtain⟨f2,l2,r2⟩:=f.set e1 q1;obtain⟨bW,a,f3,l3,r3⟩:=f2.cW e2 q2;exact⟨bW,a,f3,λj=>(l3 j).trans (l2 j),λj hj=>(r3 j (by rw[l2 j];exact hj)).trans (r2 j hj)⟩
theorem bI.cJ(f:bI M B h S fr aj){t:T}(e:cJ t v fr=some ah)(q:Rep h S v d):∃bW,Ev.cJ t d aj=some bW/\bI M B h S ah bW/\(∀j,locked ah j=locked fr j)/\∀j,locked fr j=true->bW[j]?=aj[j]?:=by
 cases t with
 |one i=>exact⟨_,rfl,f.set e q⟩
 |many l=>
  cases v<;>simp only[Pv.cJ,reduceCtorEq]at e
  simp only[Rep]at q;obtain⟨ds,rfl,q⟩:=q;exact f.cW e q
theorem bI.undef(f:bI M B h S fr aj){t:T}(e:undef t fr=true):Ev.undef t aj=true:=by
 unfold Pv.undef at e;unfold Ev.undef;rw[abc]at e ⊢;intro i hi;have:=e i hi;cases z:fr[i]? with
 |none=>
  have:aj[i]?=none:=by
   rw[acu]at z ⊢;rw[<-f.len];exact z
  rw[this];rfl
 |some o=>
  obtain⟨p,e1,q⟩:=f.get z;rw[z]at this;rcases o with _|s
  .simp only[lI]at q;subst q;rw[e1];rfl
  .simp at this
def zb{i:Nat}{o:Option Sl}(e:(ue fr)[i]?=some o):∃o0,fr[i]?=some o0/\o=o0.map Sl.read:=by
 unfold ue at e;rw[aat]at e;cases z:fr[i]? with
 |none=>rw[z]at e;cases e
 |some o0=>rw[z]at e;cases e;exact⟨o0,rfl,rfl⟩
theorem bI.ro(f:bI M B h S fr aj):bI (λ_=>False) B h S (ue fr) aj:=by
 refine⟨λm y=>⟨(f.wS m y).1,id,(f.wS m y).2.2⟩,λm y=>y.elim,f.wB,by simp[ue,f.len],λi o p y1 y2=>?_,λi j o o' m y1 y2 y3 y4 y5 y6=>?_⟩
 .obtain⟨o0,z,rfl⟩:=zb y1;have q:=f.sl i o0 p z y2;rcases o0 with _|s
  .exact q
  .cases s with
   |val v=>exact q
   |own l=>obtain⟨m,ds,a,b,c,d⟩:=q;exact⟨m,ds,a,id,c,d⟩
   |bor l=>obtain⟨m,ds,a,b,c,d⟩:=q;exact⟨m,ds,a,id,c,d⟩
   |ro l=>obtain⟨m,ds,a,b,c,d⟩:=q;exact⟨m,ds,a,id,c,d⟩
 .obtain⟨o0,z,rfl⟩:=zb y1;rcases o0 with _|s
  .cases y3
  .cases s<;>cases y3
theorem j3:∀{ck:List (Nat×List D)},(∀q∈ck,bA h q.1=some q.2)->Ev.stays h ck=true
 |[],_=>rfl
 | (n,ds) :: r,q=>by
  simp only[Ev.stays,xg];refine⟨?_,j3 λx hx=>q x (aag _ hx)⟩;rw[q (n,ds) (aaG ..)];exact Ev.zR _
def mz{n:Nat}{ds:List D}(q:bA h n=some ds)(k:h'[n]?=h[n]?):bA h' n=some ds:=by
 unfold bA at q ⊢;rw[k];exact q
def qx{n:Nat}{ds:List D}(q:bA h n=some ds):n<h.length:=by
 unfold bA at q;cases z:h[n]? with
 |none=>rw[z]at q;cases q
 |some o=>exact(List.getElem?_eq_some_iff.mp z).1
noncomputable def Ek(h:Hh)(S:Nat->Prop):Option V->Option D->Prop
 |none,o=>o=none
 |some v,o=>∃d,o=some d/\Rep h S v d
theorem zc{f:V->Option (Option V)}{f':D->Hh->Ev.R (Option D)}{ck:List (Nat×List D)}{h0:Hh}{S0:Nat->Prop}(w0:∀m,S0 m->m<h0.length)(st:∀q∈ck,bA h0 q.1=some q.2)
  (turn:∀v o d h S,Al h0 S0 h S->f v=some o->Rep h S v d->∃o' h' S',f' d h=.ok o' h'/\Ek h' S' o o'/\Al h S h' S') :
  ∀{vs:List V} {ds:List D} {rs:List V} {h:Hh} {S:Nat->Prop},Al h0 S0 h S->bR f vs=some rs->av h S vs ds->∃rs' h' S',Ev.bR f' ck ds h=.ok rs' h'/\av h' S' rs rs'/\Al h S h' S'
 |[],ds,rs,h,S,a,e,q=>by
  simp[bR]at e;simp only[av]at q;subst e q;refine⟨[],h,S,?_,.nil,.refl⟩;simp only[Ev.bR];rw[JP (j3 λx hx=>mz (st x hx) (a.keep _ (qx (st x hx))))]
 |v :: vs,ds,rs,h,S,a,e,q=>by
  simp only[bR,NN]at e;obtain⟨o,e1,r,e2,e3⟩:=e;cases e3;simp only[av]at q;obtain⟨d,es,rfl,q1,q2⟩:=q;have w:∀m,S m->m<h.length:=λm z=>by
   rcases a.new m z with z|z
   .exact P6 (w0 m z) a.len
   .exact z.2
  obtain⟨o',h1,S1,t1,t2,t3⟩:=turn v o d h S a e1 q1;obtain⟨rs',h2,S2,u1,u2,u3⟩:=zc w0 st turn (a.trans t3) e2 (q2.mono (λm z=>t3.keep m (w m z)) t3.sub);have w1:∀m,S1 m->m<h1.length:=λm z=>by
   rcases t3.new m z with z|z
   .exact P6 (w m z) t3.len
   .exact z.2
  refine⟨o'.toList++rs',h2,S2,?_,?_,t3.trans u3⟩
  .simp only[Ev.bR];rw[JP (j3 λx hx=>mz (st x hx) (a.keep _ (qx (st x hx)))),t1,Ev.ak,u1,Ev.ak]
  .cases o with
   |none=>simp only[Ek]at t2;subst t2;simpa using u2
   |some v'=>
    simp only[Ek]at t2;obtain⟨d',rfl,t2⟩:=t2;exact .cons (t2.mono (λm z=>u3.keep m (w1 m z)) u3.sub) u2
end
noncomputable def jD(k:Bool)(h:Hh)(S:Nat->Prop)(v:List V)(d:List D):Prop:=if k=true then gv h S v d else av h S v d
inductive Ms(P':Ev.aP)(e:E)(k:Bool)(v:V)(M B:Nat->Prop)(h:Hh)(S:Nat->Prop)(fr:Fr)(aj:Ev.Fr)(ah:Fr):Prop
 |mk (d:D) (h':Hh) (S':Nat->Prop) (c0:Ev.ev P' e aj h=.ok d h') (c1:gy k h' S' v d) (c2:Out M B (bM e) h S fr aj h' S' ah):Ms P' e k v M B h S fr aj ah
inductive Mt(P':Ev.aP)(e:E)(b:Bool)(M B:Nat->Prop)(h:Hh)(S:Nat->Prop)(fr:Fr)(aj:Ev.Fr)(ah:Fr):Prop
 |mk (h':Hh) (S':Nat->Prop) (c0:Ev.aN P' e aj h=.ok b h') (c1:Out M B (bM e) h S fr aj h' S' ah):Mt P' e b M B h S fr aj ah
inductive Mu(P':Ev.aP)(e:Es)(k:Bool)(v:List V)(M B:Nat->Prop)(h:Hh)(S:Nat->Prop)(fr:Fr)(aj:Ev.Fr)(ah:Fr):Prop
 |mk (d:List D) (h':Hh) (S':Nat->Prop) (c0:Ev.cC P' e aj h=.ok d h') (c1:jD k h' S' v d) (c2:Out M B (fV e) h S fr aj h' S' ah):Mu P' e k v M B h S fr aj ah
inductive Mv(P':Ev.aP)(e:Es)(v:List (Nat ⊕ V))(M B:Nat->Prop)(h:Hh)(S:Nat->Prop)(fr:Fr)(aj:Ev.Fr)(ah:Fr):Prop
 |mk (d:List D) (h':Hh) (S':Nat->Prop) (c0:Ev.cC P' e aj h=.ok d h') (c1:uf h' S' aj v d) (c2:Out M B (fV e) h S fr aj h' S' ah):Mv P' e v M B h S fr aj ah
inductive Mw(P':Ev.aP)(e:Eo)(v:Option Int)(M B:Nat->Prop)(h:Hh)(S:Nat->Prop)(fr:Fr)(aj:Ev.Fr)(ah:Fr):Prop
 |mk (h':Hh) (S':Nat->Prop) (c0:Ev.gr P' e aj h=.ok v h') (c1:Out M B (kR e) h S fr aj h' S' ah):Mw P' e v M B h S fr aj ah
inductive Mx(P':Ev.aP)(e:Eo)(v:Bool)(M B:Nat->Prop)(h:Hh)(S:Nat->Prop)(fr:Fr)(aj:Ev.Fr)(ah:Fr):Prop
 |mk (h':Hh) (S':Nat->Prop) (c0:Ev.iK P' e aj h=.ok v h') (c1:Out M B (kR e) h S fr aj h' S' ah):Mx P' e v M B h S fr aj ah
inductive My(P':Ev.aP)(e:It)(k:Bool)(v:List V)(M B:Nat->Prop)(h:Hh)(S:Nat->Prop)(fr:Fr)(aj:Ev.Fr)(ah:Fr):Prop
 |mk (s:Ev.Src) (h':Hh) (S':Nat->Prop) (c0:Ev.cT P' e aj h=.ok s h') (c1:av h' S' v s.1) (c2:∀q∈s.2,bA h' q.1=some q.2/\(k=false->¬ M q.1)) (c3:Out M B (Ef e) h S fr aj h' S' ah):My P' e k v M B h S fr aj ah
section
variable(P:aP)(P':Ev.aP)
noncomputable def bD(e:E):Prop:=∀{k:Bool} {fr:Fr} {v:V} {ah:Fr} {M B:Nat->Prop} {h:Hh} {S:Nat->Prop} {aj:Ev.Fr},ev P k e fr=.ok v ah->bI M B h S fr aj->Ms P' e k v M B h S fr aj ah
noncomputable def g6(e:E):Prop:=∀{fr:Fr} {b:Bool} {ah:Fr} {M B:Nat->Prop} {h:Hh} {S:Nat->Prop} {aj:Ev.Fr},aN P e fr=.ok b ah->bI M B h S fr aj->Mt P' e b M B h S fr aj ah
noncomputable def jE(e:Es):Prop:=∀{k:Bool} {fr:Fr} {v:List V} {ah:Fr} {M B:Nat->Prop} {h:Hh} {S:Nat->Prop} {aj:Ev.Fr},cC P k e fr=.ok v ah->bI M B h S fr aj->Mu P' e k v M B h S fr aj ah
noncomputable def qy(e:Es):Prop:=∀{fr:Fr} {v:List (Nat ⊕ V)} {ah:Fr} {M B:Nat->Prop} {h:Hh} {S:Nat->Prop} {aj:Ev.Fr},gu P e fr=.ok v ah->bI M B h S fr aj->Mv P' e v M B h S fr aj ah
noncomputable def qz(e:Eo):Prop:=∀{fr:Fr} {v:Option Int} {ah:Fr} {M B:Nat->Prop} {h:Hh} {S:Nat->Prop} {aj:Ev.Fr},gr P e fr=.ok v ah->bI M B h S fr aj->Mw P' e v M B h S fr aj ah
noncomputable def uS(e:Eo):Prop:=∀{fr:Fr} {v:Bool} {ah:Fr} {M B:Nat->Prop} {h:Hh} {S:Nat->Prop} {aj:Ev.Fr},iK P e fr=.ok v ah->bI M B h S fr aj->Mx P' e v M B h S fr aj ah
noncomputable def ku(e:It):Prop:=∀{k:Bool} {fr:Fr} {v:List V} {ah:Fr} {M B:Nat->Prop} {h:Hh} {S:Nat->Prop} {aj:Ev.Fr},cT P k e fr=.ok v ah->bI M B h S fr aj->My P' e k v M B h S fr aj ah
end
section
variable{P:aP}{P':Ev.aP}{a b e tt:E}{es:Es}{lo hi:Eo}{it:It}
def Mz{d:D}:bD P P' (.c d):=λz f=>by
 simp only[ev]at z;replace z:=aI z;obtain⟨z,y0⟩:=z;subst y0;exact⟨d,_,_,by simp only[Ev.ev],.of (nA z),.refl f⟩
def MA{i:Nat}:bD P P' (.v i):=λz f=>by
 simp only[ev]at z;replace z:=aI z;obtain⟨z,y0⟩:=z;subst y0;obtain⟨d,e1,q⟩:=II z f;exact⟨d,_,_,by simp only[Ev.ev,e1,Ev.ef],q,.refl f⟩
def jD.n{h:Hh}{S:Nat->Prop}{v:List V}{d:List D}(q:jD false h S v d):av h S v d:=by simpa[jD]using q
theorem av.tl{h:Hh}{S:Nat->Prop}:∀{v:List V}{d:List D},av h S v d->gv h S v d
 |[],_,q=>q
 |_ :: _,_,⟨d,es,a,b,q⟩=>⟨d,es,a,b.top,q.tl⟩
def jD.t{k:Bool}{h:Hh}{S:Nat->Prop}{v:List V}{d:List D}(q:jD k h S v d):gv h S v d:=by
 unfold jD at q;split at q
 .exact q
 .exact q.tl
def Cc(is:jE P P' es):bD P P' (.tup es):=λz f=>by
 simp only[ev]at z;obtain⟨ds,aq,z1,z2⟩:=ai z;replace z2:=aI z2;obtain⟨z2,y0⟩:=z2;subst y0;obtain⟨ds',h',S',e1,q,o⟩:=is z1 f;unfold iV at z2;split at z2
 .rename_i hk;cases z2;refine⟨.tup ds',h',S',?_,.of ⟨ds',rfl,q.n⟩,o⟩;simp only[Ev.ev,e1,Ev.ak];rw[JP (by rw[<-q.n.length];exact hk)]
 .cases z2
def Cd(is:jE P P' es):bD P P' (.lst es):=λz f=>by
 simp only[ev]at z;obtain⟨ds,aq,z1,z2⟩:=ai z;replace z2:=aI z2;obtain⟨z2,y0⟩:=z2;subst y0;obtain⟨ds',h',S',e1,q,o⟩:=is z1 f;obtain⟨r,h2,S2,a1,a2,a3⟩:=iN o.f.w z2 q.n;exact⟨r,h2,S2,by simp only[Ev.ev,e1,Ev.ak,a1],.of a2,o.al a3⟩
def oz{a:E}{aj:Ev.Fr}{h h1:Hh}{d:D}(e:Ev.ev P' a aj h=.ok d h1):∀i,a=.v i->aj[i]?.join=some d:=λi hi=>by
 subst hi;simp only[Ev.ev]at e;exact(Ev.aI e).1
def two(ia:bD P P' a)(ib:bD P P' b){α:Type}{X:V->V->Fr->R α}{u:α}{fr bU:Fr}{M B:Nat->Prop}{h:Hh}{S:Nat->Prop}{aj:Ev.Fr}
  (z:((ev P (kf a (bM b)) a fr).bind λx ah=>(ev P true b ah).bind λy aq=>X x y aq)=.ok u bU) (f:bI M B h S fr aj) :
  ∃x y d e h2 S2 aq,(∀{β:Type} (g:D->D->Hh->Ev.R β),((Ev.ev P' a aj h).bind λx h1=>(Ev.ev P' b aj h1).bind λy h2=>g x y h2)=g d e h2)/\X x y aq=.ok u bU/\bw h2 S2 x d/\bw h2 S2 y e/\Out M B (bM a++bM b) h S fr aj h2 S2 aq:=by
 replace z:=ai z;obtain⟨x,ah,z1,z⟩:=z;replace z:=ai z;obtain⟨y,aq,z2,z⟩:=z;obtain⟨d,h1,S1,e1,q1,o1⟩:=ia z1 f;obtain⟨e,h2,S2,e2,q2,o2⟩:=ib z2 o1.f;exact⟨x,y,d,e,h2,S2,aq,λg=>by rw[e1,Ev.ak,e2,Ev.ak],z,(q1.tr o1.f o2.tr id (oz e1)).t,q2.t,o1.trans o2⟩
def Ce{o:bJ}(ia:bD P P' a)(ib:bD P P' b):bD P P' (.bin o a b):=λz f=>by
 simp only[ev]at z;replace z:=two ia ib z f;obtain⟨x,y,d,e,h2,S2,aq,k,z,q1,q2,ou⟩:=z;replace z:=aI z;obtain⟨z,y0⟩:=z;subst y0;obtain⟨r,h3,S3,a1,a2,a3⟩:=Mi ou.f.w z q1 q2;exact⟨r,h3,S3,by simp only[Ev.ev];rw[k];exact a1,.of a2,ou.al a3⟩
def Cf{o:bx}(ia:bD P P' a)(ib:bD P P' b):bD P P' (.cmp o a b):=λz f=>by
 simp only[ev]at z;replace z:=two ia ib z f;obtain⟨x,y,d,e,h2,S2,aq,k,z,q1,q2,ou⟩:=z;replace z:=aI z;obtain⟨z,y0⟩:=z;subst y0;simp only[gV]at z;obtain⟨b,z,rfl⟩:=z;exact⟨.bl b,h2,S2,by simp only[Ev.ev];rw[k,wc z q1.u q2.u];rfl,.of rfl,ou⟩
def GJ(ia:bD P P' a)(ib:bD P P' b):bD P P' (.ix a b):=λz f=>by
 simp only[ev]at z;replace z:=two ia ib z f;obtain⟨x,y,d,e,h2,S2,aq,k,z,q1,q2,ou⟩:=z;replace z:=aI z;obtain⟨z,y0⟩:=z;subst y0;obtain⟨r,a1,a2⟩:=Mj z q1 q2;exact⟨r,h2,S2,by simp only[Ev.ev];rw[k,a1];rfl,.of a2,ou⟩
def GK{o p:bx}{c:E}(ia:bD P P' a)(ib:bD P P' b)(ic:bD P P' c):bD P P' (.ch o p a b c):=λz f=>by
 simp only[ev]at z;replace z:=ai z;obtain⟨x,ah,z1,z⟩:=z;replace z:=ai z;obtain⟨y,aq,z2,z⟩:=z;replace z:=ai z;obtain⟨k,cL,z3,z⟩:=z;replace z3:=aI z3;obtain⟨z3,y0⟩:=z3;subst y0;obtain⟨d,h1,S1,e1,q1,o1⟩:=ia z1 f;obtain⟨e,h2,S2,e2,q2,o2⟩:=ib z2 o1.f;have zd:=(q1.tr o1.f o2.tr id (oz e1)).t;have c1:=wc z3 zd.u q2.t.u;cases k with
 |false=>
  simp only[aai,aaL]at z;cases z;refine⟨.bl false,h2,S2,by simp only[Ev.ev,e1,Ev.ak,e2,c1,Ev.ef];rfl,.of rfl,?_⟩;exact(o1.trans o2).weak (by simp only[bM];intro i hi;simp at hi ⊢;rcases hi with hi|hi<;>simp[hi])
 |true=>
  simp only[aal]at z;replace z:=ai z;obtain⟨y2,gT,z4,z⟩:=z;replace z:=aI z;obtain⟨z,y0⟩:=z;subst y0;obtain⟨g,h3,S3,e3,q3,o3⟩:=ic z4 o2.f;simp only[gV]at z;obtain⟨b',z,rfl⟩:=z;have c2:=wc z (q2.tr o2.f o3.tr id (oz e2)).t.u q3.t.u;exact⟨.bl b',h3,S3,by simp only[Ev.ev,e1,Ev.ak,e2,c1,Ev.ef,aal,e3,c2];rfl,.of rfl,o1.trans (o2.trans o3)⟩
def QX(ia:bD P P' a):bD P P' (.nt a):=λz f=>by
 simp only[ev]at z;replace z:=ai z;obtain⟨x,ah,z1,z⟩:=z;obtain⟨d,h1,S1,e1,q1,o1⟩:=ia z1 f;cases x<;>simp only[reduceCtorEq]at z
 cases z;have q:=q1.t;simp only[bw,Rep]at q;subst q;exact⟨_,h1,S1,by simp only[Ev.ev,e1,Ev.ak],.of rfl,o1⟩
def Cg(ia:bD P P' a):bD P P' (.neg a):=λz f=>by
 simp only[ev]at z;replace z:=ai z;obtain⟨x,ah,z1,z⟩:=z;obtain⟨d,h1,S1,e1,q1,o1⟩:=ia z1 f;cases x<;>simp only[reduceCtorEq]at z
 cases z;have q:=q1.t;simp only[bw,Rep]at q;subst q;exact⟨_,h1,S1,by simp only[Ev.ev,e1,Ev.ak],.of rfl,o1⟩
def QY(ia:bD P P' a)(ib:bD P P' b):bD P P' (.an a b):=λz f=>by
 simp only[ev]at z;replace z:=ai z;obtain⟨x,ah,z1,z⟩:=z;obtain⟨d,h1,S1,e1,q1,o1⟩:=ia z1 f;cases x<;>try (cases z;done)
 rename_i k;have q:=q1.t;simp only[bw,Rep]at q;subst q;cases k with
 |true=>
  try simp only at z
  obtain⟨d,h2,S2,e2,q2,o2⟩:=ib z o1.f;exact⟨d,h2,S2,by simp only[Ev.ev,e1,Ev.ak,e2],q2,o1.trans o2⟩
 |false=>
  try simp only at z
  cases z;exact⟨_,h1,S1,by simp only[Ev.ev,e1,Ev.ak],.of rfl,o1.weak (by simp only[bM];intro i hi;simp[hi])⟩
def MB(ia:bD P P' a)(ib:bD P P' b):bD P P' (.orr a b):=λz f=>by
 simp only[ev]at z;replace z:=ai z;obtain⟨x,ah,z1,z⟩:=z;obtain⟨d,h1,S1,e1,q1,o1⟩:=ia z1 f;cases x<;>try (cases z;done)
 rename_i k;have q:=q1.t;simp only[bw,Rep]at q;subst q;cases k with
 |false=>
  try simp only at z
  obtain⟨d,h2,S2,e2,q2,o2⟩:=ib z o1.f;exact⟨d,h2,S2,by simp only[Ev.ev,e1,Ev.ak,e2],q2,o1.trans o2⟩
 |true=>
  try simp only at z
  cases z;exact⟨_,h1,S1,by simp only[Ev.ev,e1,Ev.ak],.of rfl,o1.weak (by simp only[bM];intro i hi;simp[hi])⟩
def Ci(it:g6 P P' tt)(ia:bD P P' a)(ib:bD P P' b):bD P P' (.iU tt a b):=λz f=>by
 simp only[ev]at z;replace z:=ai z;obtain⟨k,ah,z1,z⟩:=z;obtain⟨h1,S1,e1,o1⟩:=it z1 f;cases k with
 |true=>
  simp only[aal]at z;obtain⟨d,h2,S2,e2,q2,o2⟩:=ia z o1.f;exact⟨d,h2,S2,by simp only[Ev.ev,e1,Ev.ak,aal,e2],q2,(o1.trans o2).weak (by simp only[bM];intro i hi;simp at hi ⊢;rcases hi with hi|hi<;>simp[hi])⟩
 |false=>
  simp only[aai,aaL]at z;obtain⟨d,h2,S2,e2,q2,o2⟩:=ib z o1.f;exact⟨d,h2,S2,by simp only[Ev.ev,e1,Ev.ak];rw[Yu (by decide)];exact e2,q2,(o1.trans o2).weak (by simp only[bM];intro i hi;simp at hi ⊢;rcases hi with hi|hi<;>simp[hi])⟩
def GL(ia:bD P P' a)(il:qz P P' lo)(ih:qz P P' hi):bD P P' (.sl a lo hi):=λz f=>by
 simp only[ev]at z;replace z:=ai z;obtain⟨x,ah,z1,z⟩:=z;replace z:=ai z;obtain⟨l,aq,z2,z⟩:=z;replace z:=ai z;obtain⟨u,cL,z3,z⟩:=z;replace z:=aI z;obtain⟨z,y0⟩:=z;subst y0;obtain⟨d,h1,S1,e1,q1,o1⟩:=ia z1 f;obtain⟨h2,S2,e2,o2⟩:=il z2 o1.f;obtain⟨h3,S3,e3,o3⟩:=ih z3 o2.f;have q:=(q1.tr o1.f (o2.trans o3).tr id (oz e1)).t;obtain⟨r,h4,S4,a1,a2,a3⟩:=Mk o3.f.w z q;exact⟨r,h4,S4,by simp only[Ev.ev,e1,Ev.ak,e2,e3,a1],.of a2,(o1.trans (o2.trans o3)).al a3⟩
def GN(ia:bD P P' a):bD P P' (.rv a):=λz f=>by
 simp only[ev]at z;replace z:=ai z;obtain⟨x,ah,z1,z⟩:=z;replace z:=aI z;obtain⟨z,y0⟩:=z;subst y0;obtain⟨d,h1,S1,e1,q1,o1⟩:=ia z1 f;obtain⟨r,h4,S4,a1,a2,a3⟩:=Ml o1.f.w z q1.t;exact⟨r,h4,S4,by simp only[Ev.ev,e1,Ev.ak,a1],.of a2,o1.al a3⟩
theorem nE:∀{es:Es}{fr ah:Fr}{as:List (Nat ⊕ V)},gu P es fr=.ok as ah->∀i∈bZ as,i∈jT es
 |.nil,_,_,_,z=>by simp only[gu]at z;cases z;simp[bZ]
 |.cons e es,fr,ah,as,z=>by
  simp only[gu]at z;cases y:lM fr e with
  |some i=>
   rw[y]at z;simp only at z;replace z:=ai z;obtain⟨xs,cL,z2,z⟩:=z;cases z;have hy:e=.v i:=by
    cases e<;>simp only[lM,reduceCtorEq]at y
    split at y
    .cases y;rfl
    .cases y
   subst hy;intro j hj;simp only[bZ,aaY]at hj;simp only[jT,aaY];exact hj.imp id λhj=>nE z2 j hj
  |none=>
   rw[y]at z;simp only at z;replace z:=ai z;obtain⟨x,aq,z1,z⟩:=z;replace z:=ai z;obtain⟨xs,cL,z2,z⟩:=z;cases z;intro j hj;simp only[bZ]at hj;have:=nE z2 j hj;cases e<;>simp only[jT]<;>first|exact this|exact aag _ this
def GO(HP:qv P P'){g:Nat}(is:qy P P' es):bD P P' (.cl g es):=λz f=>by
 simp only[ev]at z;replace z:=ai z;obtain⟨as,ah,z1,z⟩:=z;obtain⟨ds,h1,S1,e1,q1,o1⟩:=is z1 f;obtain⟨d,h2,S2,e2,q2,o2⟩:=Ej HP z o1.f q1;exact⟨d,h2,S2,by simp only[Ev.ev,e1,Ev.ak,e2],.of q2,(o1.trans o2).weak (by
  simp only[bM];intro i hi;rcases List.mem_append.mp hi with hi|hi
  .exact List.mem_append.mpr (.inl hi)
  .exact List.mem_append.mpr (.inr (nE z1 i hi)))⟩
def GP{g:BI}(is:jE P P' es):bD P P' (.bi g es):=λz f=>by
 simp only[ev]at z;replace z:=ai z;obtain⟨as,ah,z1,z⟩:=z;replace z:=aI z;obtain⟨z,y0⟩:=z;subst y0;obtain⟨ds,h1,S1,e1,q1,o1⟩:=is z1 f;obtain⟨r,h4,S4,a1,a2,a3⟩:=Mn o1.f.w z q1.t;exact⟨r,h4,S4,by simp only[Ev.ev,e1,Ev.ak,a1],.of a2,o1.al a3⟩
def Cj{ts:List TY}(ia:bD P P' a):bD P P' (.gx a ts):=λz f=>by
 simp only[ev]at z;replace z:=ai z;obtain⟨x,ah,z1,z⟩:=z;cases z;obtain⟨d,h1,S1,e1,q1,o1⟩:=ia z1 f;have:Ev.dS h1 d=dS x:=funext λt=>IF q1.t t;refine⟨.bl (ts.any (Ev.dS h1 d)),h1,S1,by simp only[Ev.ev,e1,Ev.ak],.of ?_,o1⟩;rw[this];rfl
def ze{kvs:List (D×D)}(ia:bD P P' a):bD P P' (.gP kvs a):=λz f=>by
 simp only[ev]at z;replace z:=ai z;obtain⟨x,ah,z1,z⟩:=z;replace z:=aI z;obtain⟨z,y0⟩:=z;subst y0;obtain⟨d,h1,S1,e1,q1,o1⟩:=ia z1 f;obtain⟨r,a1,a2⟩:=Eg (S:=S1) q1.t.u z;exact⟨r,h1,S1,by simp only[Ev.ev,e1,Ev.ak,a1,Ev.ef],.of a2,o1⟩
def Ck(ia:bD P P' a):bD P P' (.jA a):=λz f=>by
 simp only[ev]at z;replace z:=ai z;obtain⟨x,ah,z1,z⟩:=z;replace z:=aI z;obtain⟨z,y0⟩:=z;subst y0;obtain⟨d,h1,S1,e1,q1,o1⟩:=ia z1 f;obtain⟨r,a1,a2⟩:=Mm z q1.t;exact⟨r,h1,S1,by simp only[Ev.ev,e1,Ev.ak,a1],.of a2,o1⟩
def GQ{m:ME}{o:E}(io:bD P P' o)(is:jE P P' es):bD P P' (.me m o es):=λ{k fr v ah M B h S aj} z f=>by
 simp only[ev]at z;by_cases hm:jg m=true
 .rw[JP hm]at z;cases y:lM fr o with
  |none=>rw[y]at z;cases z
  |some i=>
  rw[y]at z;try simp only at z
  replace z:=ai z;obtain⟨as,aq,z1,z⟩:=z;have hy:o=.v i/\∃s,lent fr i=some s:=by
   cases o<;>simp only[lM,reduceCtorEq]at y
   rename_i j;split at y
   .rename_i hs;cases y;exact⟨rfl,Option.isSome_iff_exists.mp hs⟩
   .cases y
  obtain⟨rfl,s,hs⟩:=hy;obtain⟨n,cs,_,_,_,w2,w3,_,_⟩:=jL hs f;obtain⟨ds,h1,S1,e1,q1,o1⟩:=is z1 f;have hr:Ev.yw m (.ref n) h=true:=by cases m<;>simp[jg]at hm<;>simp[Ev.yw,gR w3]
  have hap:B9 m=false->av h1 S1 as ds:=λhh=>by rw[hh]at q1;exact q1.n
  have fin:∀s l l',aq[i]?=some (some s)->iz (some s)=true->(∃m' cs',aj[i]?=some (some (.ref m'))/\h1[m']?=some (.lst cs')/\av h1 S1 l cs')->kq m l as=some (v,l')->ah=aq.set i (some (s.with l'))->
    Ms P' (.me m (.v i) es) k v M B h S fr aj ah:=by
   intro s l l' k1 k2 ⟨m',cs',k3,k4,k5⟩ k6 k7;rw[w2]at k3;cases k3;have mn:=o1.f.mM k1 k2 w2;obtain⟨r,ds',a1,a2,a3⟩:=Mr k6 k4 k5 q1.t hap λk z y=>(o1.f.wS k z).2.1 (y▸mn);have fw:=o1.f.write (l':=l') k1 k2 w2 a3;subst k7;refine⟨r,_,S1,?_,.of (a2.mono (λm z=>lN λy=>(o1.f.wS m z).2.1 (y▸mn)) λ_ z=>z),fw,?_,λj=>?_⟩
   .simp only[Ev.ev,w2,Option.join,Ev.ef,Ev.ak,hr,aal,e1];simp only[Option.bind,id,Ev.ef,Ev.ak,hr,aal,e1];exact a1
   .refine⟨by simpa using o1.tr.len,λm y1 y2=>?_,o1.tr.sub,λm y=>by simpa using o1.tr.new m y⟩;have y3:¬ Xs M aj (fV es) m:=λz=>y2 (Xs.mono (by simp only[bM];intro i hi;simp[hi]) z);have y4:m≠n:=λz=>y2 ⟨z▸mn,i,by simp[bM,Uj,hm],by rw[z];exact w2⟩;rw[lN (λ(z:n=m)=>y4 z.symm)];exact o1.tr.keep m y1 y3
   .rw[<-o1.lk j];unfold locked;by_cases hj:i=j
    .subst hj;rw[Y6 (List.getElem?_eq_some_iff.mp k1).1,k1];exact za
    .rw[WD hj]
  split at z
  .rename_i l k1;have old:=o1.f.get k1;obtain⟨p,k2,m',cs',rfl,_,k4,k5⟩:=old;split at z
   .rename_i v' l' k6;cases z;exact fin _ l l' k1 rfl ⟨m',cs',k2,k4,k5⟩ k6 rfl
   .cases z
  .rename_i l k1;have old:=o1.f.get k1;obtain⟨p,k2,m',cs',rfl,_,k4,k5⟩:=old;split at z
   .rename_i v' l' k6;cases z;exact fin _ l l' k1 rfl ⟨m',cs',k2,k4,k5⟩ k6 rfl
   .cases z
  .cases z
 .rw[Yu hm]at z;replace z:=ai z;obtain⟨x,aq,z1,z⟩:=z;replace z:=ai z;obtain⟨as,cL,z2,z⟩:=z;replace z:=aI z;obtain⟨z,y0⟩:=z;subst y0;obtain⟨d,h1,S1,e1,q1,o1⟩:=io z1 f;obtain⟨ds,h2,S2,e2,q2,o2⟩:=is z2 o1.f;have hm':jg m=false:=by simpa using hm
  have zd:=(q1.tr o1.f o2.tr id (oz e1)).t;obtain⟨a1,r,a2,a3⟩:=Mp z hm' zd q2.t;have hr:Ev.yw m d h1=true:=by
   unfold dz at z;split at z
   .have:=q1.t;simp only[bw,Rep]at this;subst this;rfl
   .have:=q1.t;simp only[bw,Rep]at this;subst this;rfl
   .have:=q1.t;simp only[bw,Rep]at this;subst this;rfl
   .cases z
  exact⟨r,h2,S2,by simp only[Ev.ev,e1,Ev.ak,hr,aal,e2,a2],.of a3,(o1.trans o2).weak (by simp only[bM];intro i hi;simp at hi ⊢;rcases hi with hi|hi<;>simp[hi])⟩
def wk{elt:E}{t:T}{cond:Eo}(ii:ku P P' it)(ic:uS P P' cond)(ie:bD P P' elt):bD P P' (.comp elt t it cond):=λz f=>by
 simp only[ev]at z;replace z:=ai z;obtain⟨vs,aq,z1,z⟩:=z;split at z
 case isFalse=>cases z
 rename_i hu;replace z:=aI z;obtain⟨z,y0⟩:=z;subst y0;simp only[NN]at z;obtain⟨rs,z2,z3⟩:=z;obtain⟨s,h1,S1,e1,q1,q2,o1⟩:=ii z1 f;have Yb:=o1.f.ro;obtain⟨rs',h2,S2,c1,c2,c3⟩:=zc (f':=λd h2=>match Ev.cJ t d _ with
    |none=>.bad
    |some aq=>(Ev.iK P' cond aq h2).bind λk h3=>if k then (Ev.ev P' elt aq h3).bind λx h4=>.ok (some x) h4 else .ok none h3) (ck:=s.2) o1.f.w (λq hq=>(q2 q hq).1) (λv o d h S al y q=>by
  split at y
  .cases y
  .rename_i cL y1;obtain⟨ju,b1,b2,_,_⟩:=(Yb.al al).cJ y1 q;rw[b1];split at y
   .rename_i c gT y2;obtain⟨h3,S3,c1,oc⟩:=ic y2 b2;have MC:Al h S h3 S3:=oc.tr.al λm z=>z.1;split at y
    .rename_i hc;subst hc;split at y
     .rename_i x tu y3;cases y;obtain⟨d',h4,S4,d1,d2,od⟩:=ie y3 (b2.al MC);refine⟨some d',h4,S4,?_,⟨d',rfl,d2.n⟩,MC.trans (od.tr.al λm z=>z.1)⟩;simp only[c1,Ev.ak,aal,d1]
     .cases y
    .rename_i hc;cases y;refine⟨none,h3,S3,?_,rfl,MC⟩;simp only[c1,Ev.ak];rw[Yu hc]
   .cases y) Al.refl z2 q1
 obtain⟨r,h4,S4,a1,a2,a3⟩:=iN (o1.f.al c3).w z3 c2;refine⟨r,h4,S4,?_,.of a2,(o1.al c3).al a3⟩;simp only[Ev.ev,e1,Ev.ak];rw[JP (o1.f.undef hu)];refine ab8 (aab (λq:Ev.R (List D)=>q.bind λds h2=>Ev.alloc ds h2) c1) ?_;simp only[Ev.ak,a1]
def Cm(ii:ku P P' it):bD P P' (.gp it):=λz f=>by
 simp only[ev]at z;replace z:=ai z;obtain⟨vs,aq,z1,z⟩:=z;replace z:=aI z;obtain⟨z,y0⟩:=z;subst y0;obtain⟨s,h1,S1,e1,q1,q2,o1⟩:=ii z1 f;obtain⟨r,h4,S4,a1,a2,a3⟩:=iN o1.f.w z q1;exact⟨r,h4,S4,by simp only[Ev.ev,e1,Ev.ak,a1],.of a2,o1.al a3⟩
def MD:jE P P' .nil:=λ{k fr v ah M B h S aj} z f=>by
 simp only[cC]at z;cases z;refine⟨[],_,_,by simp only[Ev.cC],?_,.refl f⟩;unfold jD;split<;>rfl
def IK(ie:bD P P' e)(is:jE P P' es):jE P P' (.cons e es):=λ{k fr v ah M B h S aj} z f=>by
 simp only[cC]at z;replace z:=ai z;obtain⟨x,aq,z1,z⟩:=z;replace z:=ai z;obtain⟨xs,cL,z2,z⟩:=z;cases z;obtain⟨d,h1,S1,e1,q1,o1⟩:=ie z1 f;obtain⟨ds,h2,S2,e2,q2,o2⟩:=is z2 o1.f;have zd:=q1.tr (a:=e) o1.f o2.tr (by intro z;simp at z;exact z.2) (oz e1);refine⟨d :: ds,h2,S2,by simp only[Ev.cC,e1,Ev.ak,e2],?_,o1.trans o2⟩;unfold jD at q2 ⊢;cases k with
 |true=>simp only[aal]at q2 ⊢;exact⟨d,ds,rfl,zd.t,q2⟩
 |false=>
  simp only[aai,aaL]at q2 ⊢;exact .cons (by simpa[gy]using zd) q2
def IL:qy P P' .nil:=λz f=>by
 simp only[gu]at z;cases z;exact⟨[],_,_,by simp only[Ev.cC],rfl,.refl f⟩
def El(ie:bD P P' e)(is:qy P P' es):qy P P' (.cons e es):=λ{fr v ah M B h S aj} z f=>by
 simp only[gu]at z;cases y:lM fr e with
 |some i=>
  rw[y]at z;try simp only at z
  replace z:=ai z;obtain⟨xs,cL,z2,z⟩:=z;cases z;have hy:e=.v i/\∃s,lent fr i=some s:=by
   cases e<;>simp only[lM,reduceCtorEq]at y
   rename_i j;split at y
   .rename_i hs;cases y;exact⟨rfl,Option.isSome_iff_exists.mp hs⟩
   .cases y
  obtain⟨rfl,s,hs⟩:=hy;obtain⟨n,cs,_,_,_,w2,w3,_,_⟩:=jL hs f;obtain⟨ds,h2,S2,e2,q2,o2⟩:=is z2 f;refine⟨.ref n :: ds,h2,S2,?_,⟨_,_,rfl,w2,q2⟩,o2.weak (by simp only[fV,bM];intro i hi;simpa using hi)⟩;simp only[Ev.cC,Ev.ev,w2,Option.join,Option.bind,id,Ev.ef,Ev.ak,e2]
 |none=>
  rw[y]at z;try simp only at z
  replace z:=ai z;obtain⟨x,aq,z1,z⟩:=z;replace z:=ai z;obtain⟨xs,cL,z2,z⟩:=z;cases z;obtain⟨d,h1,S1,e1,q1,o1⟩:=ie z1 f;obtain⟨ds,h2,S2,e2,q2,o2⟩:=is z2 o1.f;exact⟨d :: ds,h2,S2,by simp only[Ev.cC,e1,Ev.ak,e2],⟨_,_,rfl,q1.n.tr o1.f o2.tr,q2⟩,o1.trans o2⟩
def QZ:qz P P' .no:=λz f=>by
 simp only[gr]at z;cases z;exact⟨_,_,by simp only[Ev.gr],.refl f⟩
def MF(ie:bD P P' e):qz P P' (.yes e):=λz f=>by
 simp only[gr]at z;replace z:=ai z;obtain⟨x,aq,z1,z⟩:=z;replace z:=aI z;obtain⟨z,y0⟩:=z;subst y0;obtain⟨d,h1,S1,e1,q1,o1⟩:=ie z1 f;cases x<;>simp[intOf]at z
 subst z;have q:=q1.t;simp only[bw,Rep]at q;subst q;exact⟨h1,S1,by simp only[Ev.gr,e1,Ev.ak];rfl,o1⟩
def MG:uS P P' .no:=λz f=>by
 simp only[iK]at z;cases z;exact⟨_,_,by simp only[Ev.iK],.refl f⟩
def IM(ie:g6 P P' e):uS P P' (.yes e):=λz f=>by
 simp only[iK]at z;obtain⟨h1,S1,e1,o1⟩:=ie z f;exact⟨h1,S1,by simp only[Ev.iK,e1],o1⟩
def Ws(ia:g6 P P' a)(ib:g6 P P' b):g6 P P' (.an a b):=λz f=>by
 simp only[aN]at z;replace z:=ai z;obtain⟨k,ah,z1,z⟩:=z;obtain⟨h1,S1,e1,o1⟩:=ia z1 f;cases k with
 |true=>
  simp only[aal]at z;obtain⟨h2,S2,e2,o2⟩:=ib z o1.f;exact⟨h2,S2,by simp only[Ev.aN,e1,Ev.ak,aal,e2],o1.trans o2⟩
 |false=>
  simp only[aai,aaL]at z;cases z;exact⟨h1,S1,by simp only[Ev.aN,e1,Ev.ak];rfl,o1.weak (by simp only[bM];intro i hi;simp[hi])⟩
def Q0(ia:g6 P P' a)(ib:g6 P P' b):g6 P P' (.orr a b):=λz f=>by
 simp only[aN]at z;replace z:=ai z;obtain⟨k,ah,z1,z⟩:=z;obtain⟨h1,S1,e1,o1⟩:=ia z1 f;cases k with
 |false=>
  simp only[aai,aaL]at z;obtain⟨h2,S2,e2,o2⟩:=ib z o1.f;exact⟨h2,S2,by simp only[Ev.aN,e1,Ev.ak];rw[Yu (by decide)];exact e2,o1.trans o2⟩
 |true=>
  simp only[aal]at z;cases z;exact⟨h1,S1,by simp only[Ev.aN,e1,Ev.ak];rfl,o1.weak (by simp only[bM];intro i hi;simp[hi])⟩
def Wt(ia:g6 P P' a):g6 P P' (.nt a):=λz f=>by
 simp only[aN]at z;replace z:=ai z;obtain⟨k,ah,z1,z⟩:=z;obtain⟨h1,S1,e1,o1⟩:=ia z1 f;cases z;exact⟨h1,S1,by simp only[Ev.aN,e1,Ev.ak],o1⟩
def eg(ie:bD P P' e)(h1:∀fr,aN P e fr=(ev P true e fr).bind λx ah=>.ok (truthy x) ah)(h2:∀fr h,Ev.aN P' e fr h=(Ev.ev P' e fr h).bind λx h1=>Ev.R.of (Ev.truthy h1 x) h1):g6 P P' e:=λz f=>by
 rw[h1]at z;replace z:=ai z;obtain⟨x,ah,z1,z⟩:=z;cases z;obtain⟨d,h1,S1,e1,q1,o1⟩:=ie z1 f;exact⟨h1,S1,by rw[h2,e1,Ev.ak,Ca q1.t];rfl,o1⟩
def Cn(ie:bD P P' e){k:Bool}{fr:Fr}{v:V}{ah:Fr}{M B:Nat->Prop}{h:Hh}{S:Nat->Prop}{aj:Ev.Fr}(z:src k fr e (ev P k e fr)=.ok v ah)(f:bI M B h S fr aj) :
  ∃d h' S',Ev.ev P' e aj h=.ok d h'/\bw h' S' v d/\(k=false->∀n,d=.ref n->¬ M n)/\Out M B (bM e) h S fr aj h' S' ah:=by
 have gen:ev P k e fr=.ok v ah->∃d h' S',Ev.ev P' e aj h=.ok d h'/\bw h' S' v d/\(k=false->∀n,d=.ref n->¬ M n)/\Out M B (bM e) h S fr aj h' S' ah:=λz=>by
  obtain⟨d,h1,S1,e1,q1,o1⟩:=ie z f;refine⟨d,h1,S1,e1,q1.t,λhk n hd=>?_,o1⟩;subst hk;have q:=q1.n;cases v<;>simp only[Rep]at q
  .cases q.symm.trans hd
  .cases q.symm.trans hd
  .cases q.symm.trans hd
  .cases q.symm.trans hd
  .obtain⟨_,q,_⟩:=q;cases q.symm.trans hd
  .obtain⟨m,ds,q,sm,_⟩:=q;cases q.symm.trans hd;exact(o1.f.wS _ sm).2.1
  .obtain⟨m,ds,q,sm,_⟩:=q;cases q.symm.trans hd;exact(o1.f.wS _ sm).2.1
 cases e
 case v i=>
  simp only[src]at z;replace z:=aI z;obtain⟨z,y0⟩:=z;subst y0;unfold Am at z;split at z
  .rename_i l y;cases z;obtain⟨p,e1,m,ds,rfl,y1,y2,y3⟩:=f.get y;exact⟨.ref m,h,S,by simp only[Ev.ev,e1,Option.join,Option.bind,id,Ev.ef],⟨m,ds,rfl,y2,y3⟩,λ_ n hn=>by cases hn;exact y1,.refl f⟩
  .exact gen (by simp only[ev,z,ef])
 all_goals exact gen z
def MH(ie:bD P P' e):ku P P' (.seq e):=λz f=>by
 simp only[cT]at z;replace z:=ai z;obtain⟨x,ah,z1,z⟩:=z;replace z:=aI z;obtain⟨z,y0⟩:=z;subst y0;obtain⟨d,h1,S1,e1,q1,q2,o1⟩:=Cn ie z1 f;obtain⟨s,a1,a2,a3⟩:=Eh z q1;exact⟨s,h1,S1,by simp only[Ev.cT,e1,Ev.ak,a1,Ev.ef],a2,λq hq=>⟨(a3 q hq).2,λhk=>q2 hk _ (a3 q hq).1⟩,o1⟩
def IP(is:jE P P' es):ku P P' (.gI es):=λz f=>by
 simp only[cT]at z;replace z:=ai z;obtain⟨x,ah,z1,z⟩:=z;replace z:=aI z;obtain⟨z,y0⟩:=z;subst y0;obtain⟨d,h1,S1,e1,q1,o1⟩:=is z1 f;obtain⟨s,a1,a2⟩:=Mq z q1.t;exact⟨(s,[]),h1,S1,by simp only[Ev.cT,e1,Ev.ak,a1,Ev.ef],a2,λq hq=>by simp at hq,o1⟩
def Em(ie:bD P P' e):ku P P' (.enum e):=λz f=>by
 simp only[cT]at z;replace z:=ai z;obtain⟨x,ah,z1,z⟩:=z;replace z:=aI z;obtain⟨z,y0⟩:=z;subst y0;obtain⟨d,h1,S1,e1,q1,q2,o1⟩:=Cn ie z1 f;simp only[gV]at z;obtain⟨l,z,rfl⟩:=z;obtain⟨s,a1,a2,a3⟩:=IE z q1;exact⟨(Ev.gZ 0 s.1,s.2),h1,S1,by simp only[Ev.cT,e1,Ev.ak,a1,Option.map,Ev.ef],yZ 0 a2,λq hq=>⟨(a3 q hq).2,λhk=>q2 hk _ (a3 q hq).1⟩,o1⟩
def IQ(ie:bD P P' e):ku P P' (.rev e):=λz f=>by
 simp only[cT]at z;replace z:=ai z;obtain⟨x,ah,z1,z⟩:=z;replace z:=aI z;obtain⟨z,y0⟩:=z;subst y0;obtain⟨d,h1,S1,e1,q1,o1⟩:=ie z1 f;simp only[gV]at z;obtain⟨l,z,rfl⟩:=z;cases x<;>simp only[Ak,reduceCtorEq]at z
 cases z;have k1:=q1.t;simp only[bw,Rep]at k1;obtain⟨ds,y1,k2⟩:=k1;subst y1;exact⟨(ds.reverse,[]),h1,S1,by simp only[Ev.cT,e1,Ev.ak,Ev.DO,Option.map,Ev.ef],k2.reverse,λq hq=>by simp at hq,o1⟩
def IS(ia:bD P P' a)(ib:bD P P' b):ku P P' (.jV a b):=λz f=>by
 simp only[cT]at z;replace z:=two ia ib z f;obtain⟨x,y,d,e,h2,S2,aq,k,z,q1,q2,ou⟩:=z;replace z:=aI z;obtain⟨z,y0⟩:=z;subst y0;unfold pR at z;split at z
 .rename_i a c;simp only[bw,Rep]at q1 q2;subst q1;subst q2;split at z
  case isFalse=>cases z
  rename_i hc;cases z;exact⟨((Ev.bC c a).map .str,[]),h2,S2,by simp only[Ev.cT];rw[k];simp[Ev.vz,hc],av.map (f:=V.str) (g:=D.str) (λs=>by simp[Rep]) _,λq hq=>by simp at hq,ou⟩
 .cases z
end
section
variable{P:aP}{P':Ev.aP}(HP:qv P P')
include HP
mutual
theorem br:∀e:E,bD P P' e
 |.c _=>Mz
 |.v _=>MA
 |.tup es=>Cc (gz es)
 |.lst es=>Cd (gz es)
 |.bin _ a b=>Ce (br a) (br b)
 |.cmp _ a b=>Cf (br a) (br b)
 |.ch _ _ a b c=>GK (br a) (br b) (br c)
 |.nt a=>QX (br a)
 |.neg a=>Cg (br a)
 |.an a b=>QY (br a) (br b)
 |.orr a b=>MB (br a) (br b)
 |.iU t a b=>Ci (gU t) (br a) (br b)
 |.ix a b=>GJ (br a) (br b)
 |.sl a lo hi=>GL (br a) (qA lo) (qA hi)
 |.rv a=>GN (br a)
 |.cl _ es=>GO HP (wm es)
 |.bi _ es=>GP (gz es)
 |.me _ o es=>GQ (br o) (gz es)
 |.gx a _=>Cj (br a)
 |.comp elt _ it cond=>wk (lO it) (Co cond) (br elt)
 |.gp it=>Cm (lO it)
 |.gP _ a=>ze (br a)
 |.jA a=>Ck (br a)
theorem gU:∀e:E,g6 P P' e
 |.an a b=>Ws (gU a) (gU b)
 |.orr a b=>Q0 (gU a) (gU b)
 |.nt a=>Wt (gU a)
 |.c x=>eg Mz (λ_=>by simp only[aN]) (λ_ _=>by simp only[Ev.aN])
 |.v x=>eg MA (λ_=>by simp only[aN]) (λ_ _=>by simp only[Ev.aN])
 |.tup es=>eg (Cc (gz es)) (λ_=>by simp only[aN]) (λ_ _=>by simp only[Ev.aN])
 |.lst es=>eg (Cd (gz es)) (λ_=>by simp only[aN]) (λ_ _=>by simp only[Ev.aN])
 |.bin _ a b=>eg (Ce (br a) (br b)) (λ_=>by simp only[aN]) (λ_ _=>by simp only[Ev.aN])
 |.cmp _ a b=>eg (Cf (br a) (br b)) (λ_=>by simp only[aN]) (λ_ _=>by simp only[Ev.aN])
 |.ch _ _ a b c=>eg (GK (br a) (br b) (br c)) (λ_=>by simp only[aN]) (λ_ _=>by simp only[Ev.aN])
 |.neg a=>eg (Cg (br a)) (λ_=>by simp only[aN]) (λ_ _=>by simp only[Ev.aN])
 |.iU t a b=>eg (Ci (gU t) (br a) (br b)) (λ_=>by simp only[aN]) (λ_ _=>by simp only[Ev.aN])
 |.ix a b=>eg (GJ (br a) (br b)) (λ_=>by simp only[aN]) (λ_ _=>by simp only[Ev.aN])
 |.sl a lo hi=>eg (GL (br a) (qA lo) (qA hi)) (λ_=>by simp only[aN]) (λ_ _=>by simp only[Ev.aN])
 |.rv a=>eg (GN (br a)) (λ_=>by simp only[aN]) (λ_ _=>by simp only[Ev.aN])
 |.cl _ es=>eg (GO HP (wm es)) (λ_=>by simp only[aN]) (λ_ _=>by simp only[Ev.aN])
 |.bi _ es=>eg (GP (gz es)) (λ_=>by simp only[aN]) (λ_ _=>by simp only[Ev.aN])
 |.me _ o es=>eg (GQ (br o) (gz es)) (λ_=>by simp only[aN]) (λ_ _=>by simp only[Ev.aN])
 |.gx a _=>eg (Cj (br a)) (λ_=>by simp only[aN]) (λ_ _=>by simp only[Ev.aN])
 |.comp elt _ it cond=>eg (wk (lO it) (Co cond) (br elt)) (λ_=>by simp only[aN]) (λ_ _=>by simp only[Ev.aN])
 |.gp it=>eg (Cm (lO it)) (λ_=>by simp only[aN]) (λ_ _=>by simp only[Ev.aN])
 |.gP _ a=>eg (ze (br a)) (λ_=>by simp only[aN]) (λ_ _=>by simp only[Ev.aN])
 |.jA a=>eg (Ck (br a)) (λ_=>by simp only[aN]) (λ_ _=>by simp only[Ev.aN])
theorem gz:∀e:Es,jE P P' e
 |.nil=>MD
 |.cons e es=>IK (br e) (gz es)
theorem wm:∀e:Es,qy P P' e
 |.nil=>IL
 |.cons e es=>El (br e) (wm es)
theorem qA:∀e:Eo,qz P P' e
 |.no=>QZ
 |.yes e=>MF (br e)
theorem Co:∀e:Eo,uS P P' e
 |.no=>MG
 |.yes e=>IM (gU e)
theorem lO:∀e:It,ku P P' e
 |.seq e=>MH (br e)
 |.gI es=>IP (gz es)
 |.enum a=>Em (br a)
 |.rev a=>IQ (br a)
 |.jV a b=>IS (br a) (br b)
end
end
structure Tr(M B:Nat->Prop)(h:Hh)(S:Nat->Prop)(M':Nat->Prop)(h':Hh)(S':Nat->Prop):Prop where
 len:h.length<=h'.length
 keep:∀m,m<h.length->¬ M m->h'[m]?=h[m]?
 sub:∀m,S m->S' m
 new:∀m,S' m->S m\/(h.length<=m/\m<h'.length)\/(M m/\¬ B m)
 Ao:∀m,M' m->M m\/h.length<=m
structure eX(M B:Nat->Prop)(h:Hh)(S:Nat->Prop)(fr:Fr)(aj:Ev.Fr)(M':Nat->Prop)(h':Hh)(S':Nat->Prop)(ah:Fr)(bW:Ev.Fr):Prop where
 f:bI M' B h' S' ah bW
 tr:Tr M B h S M' h' S'
 lk:∀i,locked ah i=locked fr i
 rf:∀i,locked fr i=true->bW[i]?=aj[i]?
noncomputable def iB(h:Hh)(S:Nat->Prop):Fl->Ev.Fl->Prop
 |.nx,g=>g=.nx
 |.bk,g=>g=.bk
 |.ct,g=>g=.ct
 |.ret v,g=>∃d,g=.ret d/\Rep h S v d
section
variable{M B M' M1 M2:Nat->Prop}{h h1 h2:Hh}{S S' S1 S2:Nat->Prop}{fr ah aq:Fr}{aj bW mC:Ev.Fr}{c:List Nat}{v:V}{d:D}
def eX.refl(f:bI M B h S fr aj):eX M B h S fr aj M h S fr aj:=⟨f,⟨WE _,λ_ _ _=>rfl,λ_ q=>q,λ_ q=>.inl q,λ_ q=>.inl q⟩,λ_=>rfl,λ_ _=>rfl⟩
def Out.s(o:Out M B c h S fr aj h1 S1 ah):eX M B h S fr aj M h1 S1 ah aj:=⟨o.f,⟨o.tr.len,λm y1 y2=>o.tr.keep m y1 (λz=>y2 z.1),o.tr.sub,λm q=>(o.tr.new m q).imp id .inl,λ_ q=>.inl q⟩,o.lk,λ_ _=>rfl⟩
theorem eX.trans(f0:bI M B h S fr aj)(a:eX M B h S fr aj M1 h1 S1 ah bW)(b:eX M1 B h1 S1 ah bW M2 h2 S2 aq mC):eX M B h S fr aj M2 h2 S2 aq mC where
 f:=b.f
 tr:=⟨aaa a.tr.len b.tr.len,λm y1 y2=>by
   rw[b.tr.keep m (P6 y1 a.tr.len) (λz=>by
    rcases a.tr.Ao m z with z|z
    .exact y2 z
    .omega),a.tr.keep m y1 y2],λm q=>b.tr.sub m (a.tr.sub m q),λm q=>by
   rcases b.tr.new m q with q|q|q
   .rcases a.tr.new m q with q|q|q
    .exact .inl q
    .exact .inr (.inl ⟨q.1,P6 q.2 b.tr.len⟩)
    .exact .inr (.inr q)
   .exact .inr (.inl ⟨aaa a.tr.len q.1,q.2⟩)
   .rcases a.tr.Ao m q.1 with z|z
    .exact .inr (.inr ⟨z,q.2⟩)
    .exact .inr (.inl ⟨z,P6 (a.f.wM m q.1) b.tr.len⟩),λm q=>by
   rcases b.tr.Ao m q with q|q
   .exact a.tr.Ao m q
   .exact .inr (aaa a.tr.len q)⟩
 lk:=λi=>(b.lk i).trans (a.lk i)
 rf:=λi q=>(b.rf i (by rw[a.lk i];exact q)).trans (a.rf i q)
def bI.kind(f:bI M B h S fr aj)(g:Option Sl->Option Sl->Prop)(hl:ah.length=fr.length)(hg:∀(i:Nat) o,ah[i]?=some o->∃o0,fr[i]?=some o0/\(o=o0\/(∃l,o0=some (.own l)/\o=some (.val (.lst l)))\/(∃l,o0=some (.bor l)/\o=some (.ro l)))) :
  ∃M' S',eX M B h S fr aj M' h S' ah aj:=by
 let X:Nat->Prop:=λm=>∃(i:Nat) (l:List V),fr[i]?=some (some (Sl.own l))/\ah[i]?=some (some (Sl.val (V.lst l)))/\aj[i]?=some (some (D.ref m))
 let Y:Nat->Prop:=λm=>∃(i:Nat) (l:List V),fr[i]?=some (some (Sl.bor l))/\ah[i]?=some (some (Sl.ro l))/\aj[i]?=some (some (D.ref m))
 have xM:∀m,X m->M m/\¬ B m:=λm ⟨i,l,a,_,b⟩=>by
  obtain⟨m',ds,e,q,_⟩:=f.sl i _ _ a b;cases e;exact q
 have yM:∀m,Y m->M m/\B m:=λm ⟨i,l,a,_,b⟩=>by
  obtain⟨m',ds,e,q,_⟩:=f.sl i _ _ a b;cases e;exact q
 have mono:∀{l:List V} {ds:List D},av h S l ds->av h (λm=>S m\/X m) l ds:=λq=>q.mono (λ_ _=>rfl) λ_ z=>.inl z;refine⟨λm=>M m/\¬ X m/\¬ Y m,λm=>S m\/X m,⟨⟨λm q=>?_,λm q=>f.wM m q.1,f.wB,by rw[hl,f.len],λi o p e1 e2=>?_,λi j o o' m y1 y2 y3 y4 y5 y6=>?_⟩,⟨WE _,λ_ _ _=>rfl,λ_ q=>.inl q,λm q=>?_,λm q=>.inl q.1⟩,λi=>?_,λ_ _=>rfl⟩⟩
 .rcases q with q|q
  .exact⟨(f.wS m q).1,λz=>(f.wS m q).2.1 z.1,(f.wS m q).2.2⟩
  .exact⟨f.wM m (xM m q).1,λz=>z.2.1 q,(xM m q).2⟩
 .obtain⟨o0,e0,k⟩:=hg i o e1;have old:=f.sl i o0 p e0 e2;rcases k with rfl|⟨l,rfl,rfl⟩|⟨l,rfl,rfl⟩
  .rcases o with _|s
   .exact old
   .cases s with
    |val v=>obtain⟨d,e,q⟩:=old;exact⟨d,e,q.mono (λ_ _=>rfl) λ_ z=>.inl z⟩
    |own l=>
     obtain⟨m,ds,rfl,z,y,q⟩:=old;refine⟨m,ds,rfl,⟨⟨z.1,λ⟨j,l',a1,a2,a3⟩=>?_,λ⟨j,l',a1,a2,a3⟩=>?_⟩,z.2⟩,y,mono q⟩
     .have:=f.inj i j _ _ m e0 a1 rfl rfl e2 a3;subst this;rw[e1]at a2;cases a2
     .have:=f.inj i j _ _ m e0 a1 rfl rfl e2 a3;subst this;rw[e1]at a2;cases a2
    |bor l=>
     obtain⟨m,ds,rfl,z,y,q⟩:=old;refine⟨m,ds,rfl,⟨⟨z.1,λ⟨j,l',a1,a2,a3⟩=>?_,λ⟨j,l',a1,a2,a3⟩=>?_⟩,z.2⟩,y,mono q⟩
     .have:=f.inj i j _ _ m e0 a1 rfl rfl e2 a3;subst this;rw[e1]at a2;cases a2
     .have:=f.inj i j _ _ m e0 a1 rfl rfl e2 a3;subst this;rw[e1]at a2;cases a2
    |ro l=>obtain⟨m,ds,rfl,z,y,q⟩:=old;exact⟨m,ds,rfl,λw=>z w.1,y,mono q⟩
  .obtain⟨m,ds,rfl,z,y,q⟩:=old;exact⟨.ref m,rfl,m,ds,rfl,.inr ⟨i,l,e0,e1,e2⟩,y,mono q⟩
  .obtain⟨m,ds,rfl,z,y,q⟩:=old;exact⟨m,ds,rfl,λw=>w.2.2 ⟨i,l,e0,e1,e2⟩,y,mono q⟩
 .have kd:∀(i:Nat) o,ah[i]?=some o->iz o=true->∃o0,fr[i]?=some o0/\iz o0=true:=λi o w1 w2=>by
   obtain⟨o0,e0,k⟩:=hg i o w1;rcases k with rfl|⟨l,rfl,rfl⟩|⟨l,rfl,rfl⟩
   .exact⟨o,e0,w2⟩
   .cases w2
   .cases w2
  obtain⟨oi,k1,k2⟩:=kd i o y1 y3;obtain⟨oj,k3,k4⟩:=kd j o' y2 y4;exact f.inj i j oi oj m k1 k3 k2 k4 y5 y6
 .rcases q with q|q
  .exact .inl q
  .exact .inr (.inr (xM m q))
 .unfold locked;cases z:ah[i]? with
  |none=>
   have:fr[i]?=none:=by rw[acu]at z ⊢;omega
   rw[this]
  |some o=>
   obtain⟨o0,e0,k⟩:=hg i o z;rw[e0];rcases k with rfl|⟨l,rfl,rfl⟩|⟨l,rfl,rfl⟩<;>rfl
def bI.dN(f:bI M B h S fr aj):∃M' S',eX M B h S fr aj M' h S' (fK fr) aj:=by
 refine f.kind (λ_ _=>True) (by simp[fK]) λi o e=>?_;unfold fK at e;rw[aat]at e;cases z:fr[i]? with
 |none=>rw[z]at e;cases e
 |some o0=>
  rw[z]at e;cases e;refine⟨o0,rfl,?_⟩;rcases o0 with _|s
  .exact .inl rfl
  .cases s with
   |own l=>exact .inr (.inl ⟨l,rfl,rfl⟩)
   |_=>exact .inl rfl
theorem bI.walk:∀(is:List Nat) {M:Nat->Prop}{S:Nat->Prop}{fr:Fr},bI M B h S fr aj->∃M' S',eX M B h S fr aj M' h S' (uR is fr) aj
 |[],_,_,_,f=>⟨_,_,.refl f⟩
 |i :: is,M,S,fr,f=>by
  have one:∃M1 S1,eX M B h S fr aj M1 h S1 (match fr[i]? with|some (some s)=>fr.set i (some s.walk)|_=>fr) aj:=by
   split
   .rename_i s z;have hl:=(List.getElem?_eq_some_iff.mp z).1;refine f.kind (λ_ _=>True) (by simp) λj o e=>?_;by_cases hj:i=j
    .subst hj;rw[Y6 hl]at e;cases e;refine⟨_,z,?_⟩;cases s with
     |own l=>exact .inr (.inl ⟨l,rfl,rfl⟩)
     |bor l=>exact .inr (.inr ⟨l,rfl,rfl⟩)
     |_=>exact .inl rfl
    .rw[WD hj]at e;exact⟨o,e,.inl rfl⟩
   .exact⟨M,S,.refl f⟩
  obtain⟨M1,S1,o1⟩:=one;obtain⟨M2,S2,o2⟩:=bI.walk is o1.f;exact⟨M2,S2,o1.trans f o2⟩
theorem bI.own(f:bI M B h S fr aj){i:Nat}{l:List V}{ds:List D}(e:put fr i (.own l)=some ah)(q:av h S l ds):eX M B h S fr aj (λm=>M m\/m=h.length) (h++[.lst ds]) S ah (aj.set i (some (.ref h.length))):=by
 have hx:ah=fr.set i (some (.own l))/\locked fr i=false:=by
  unfold put at e;unfold locked;split at e
  .cases e
  .cases e
  .rename_i k1 k2;cases e;refine⟨rfl,?_⟩;cases z:fr[i]? with
   |none=>rfl
   |some o=>
    rcases o with _|s
    .rfl
    .cases s with
     |bor l=>exact absurd z (k1 l)
     |ro l=>exact absurd z (k2 l)
     |_=>rfl
 obtain⟨rfl,hk⟩:=hx;have kp:∀m,m<h.length->(h++[O.lst ds])[m]?=h[m]?:=λm z=>by rw[Xk z]
 have kS:∀m,S m->(h++[O.lst ds])[m]?=h[m]?:=λm z=>kp m (f.w m z);refine⟨⟨λm y=>⟨by have:=(f.wS m y).1;simp;omega,λz=>?_,(f.wS m y).2.2⟩,λm y=>?_,λm y=>by have:=f.wB m y;simp;omega,by simp[f.len],λj o p y1 y2=>?_,λj k o o' m y1 y2 y3 y4 y5 y6=>?_⟩,⟨by simp,λm y _=>kp m y,λ_ z=>z,λ_ z=>.inl z,λm z=>z.imp id (λz=>by omega)⟩,λj=>?_,λj hj=>?_⟩
 .rcases z with z|z
  .exact(f.wS m y).2.1 z
  .have:=(f.wS m y).1;omega
 .rcases y with y|y
  .have:=f.wM m y;simp;omega
  .subst y;simp
 .by_cases hj:i=j
  .subst hj;have hl:i<fr.length:=by have:=(List.getElem?_eq_some_iff.mp y1).1;simpa using this
   rw[Y6 hl]at y1;rw[Y6 (by rw[<-f.len];exact hl)]at y2;cases y1;cases y2;exact⟨h.length,ds,rfl,⟨.inr rfl,λz=>by have:=f.wB _ z;omega⟩,by simp,q.mono kS λ_ z=>z⟩
  .rw[WD hj]at y1 y2;have old:=f.sl j o p y1 y2;rcases o with _|s
   .exact old
   .cases s with
    |val v=>obtain⟨d,e,q⟩:=old;exact⟨d,e,q.mono kS λ_ z=>z⟩
    |own l=>obtain⟨m,es,rfl,z,y,q⟩:=old;exact⟨m,es,rfl,⟨.inl z.1,z.2⟩,by rw[kp m (f.wM m z.1)];exact y,q.mono kS λ_ z=>z⟩
    |bor l=>obtain⟨m,es,rfl,z,y,q⟩:=old;exact⟨m,es,rfl,⟨.inl z.1,z.2⟩,by rw[kp m (f.wM m z.1)];exact y,q.mono kS λ_ z=>z⟩
    |ro l=>
     obtain⟨m,es,rfl,z,y,q⟩:=old;have hm:=(List.getElem?_eq_some_iff.mp y).1;exact⟨m,es,rfl,λw=>by rcases w with w|w;exact z w;omega,by rw[kp m hm];exact y,q.mono kS λ_ z=>z⟩
 .have low:∀(j:Nat) o,i≠j->fr[j]?=some o->iz o=true->aj[j]?=some (some (.ref m))->m<h.length:=λj o _ w1 w2 w3=>f.wM m (f.mM w1 w2 w3);have new:∀(j:Nat),j<fr.length->i=j->(aj.set i (some (.ref h.length)))[j]?=some (some (.ref m))->m=h.length:=λj hl hj w=>by
   subst hj;rw[Y6 (by rw[<-f.len];exact hl)]at w;cases w;rfl
  have lj:j<fr.length:=by have:=(List.getElem?_eq_some_iff.mp y1).1;simpa using this
  have lk:k<fr.length:=by have:=(List.getElem?_eq_some_iff.mp y2).1;simpa using this
  by_cases hj:i=j
  .by_cases hk2:i=k
   .rw[<-hj,<-hk2]
   .have a:=new j lj hj y5;rw[WD hk2]at y2 y6;have b:=low k o' hk2 y2 y4 y6;omega
  .by_cases hk2:i=k
   .have a:=new k lk hk2 y6;rw[WD hj]at y1 y5;have b:=low j o hj y1 y3 y5;omega
   .rw[WD hj]at y1 y5;rw[WD hk2]at y2 y6;exact f.inj j k o o' m y1 y2 y3 y4 y5 y6
 .by_cases hj:i=j
  .subst hj;rw[hk];unfold locked;by_cases hl:i<fr.length
   .rw[Y6 hl];rfl
   .rw[aah (by simpa using hl)]
  .unfold locked;rw[WD hj]
 .have:i≠j:=λz=>by subst z;rw[hk]at hj;cases hj
  rw[WD this]
end
inductive Uk(P':Ev.aP)(w:Nat)(s:S)(g:Fl)(M B:Nat->Prop)(h:Hh)(S:Nat->Prop)(fr:Fr)(aj:Ev.Fr)(ah:Fr):Prop
 |mk (g':Ev.Fl) (bW:Ev.Fr) (M':Nat->Prop) (h':Hh) (S':Nat->Prop) (c0:Ev.ex P' w s aj h=.ok (g',bW) h') (c1:iB h' S' g g') (c2:eX M B h S fr aj M' h' S' ah bW):Uk P' w s g M B h S fr aj ah
inductive MI(P':Ev.aP)(w:Nat)(s:Ss)(g:Fl)(M B:Nat->Prop)(h:Hh)(S:Nat->Prop)(fr:Fr)(aj:Ev.Fr)(ah:Fr):Prop
 |mk (g':Ev.Fl) (bW:Ev.Fr) (M':Nat->Prop) (h':Hh) (S':Nat->Prop) (c0:Ev.exs P' w s aj h=.ok (g',bW) h') (c1:iB h' S' g g') (c2:eX M B h S fr aj M' h' S' ah bW):MI P' w s g M B h S fr aj ah
section
variable(P:aP)(P':Ev.aP)(w:Nat)
noncomputable def pS(s:S):Prop:=∀{fr:Fr} {g:Fl} {ah:Fr} {M B:Nat->Prop} {h:Hh} {S:Nat->Prop} {aj:Ev.Fr},ex P w s fr=.ok g ah->bI M B h S fr aj->Uk P' w s g M B h S fr aj ah
noncomputable def qB(s:Ss):Prop:=∀{fr:Fr} {g:Fl} {ah:Fr} {M B:Nat->Prop} {h:Hh} {S:Nat->Prop} {aj:Ev.Fr},exs P w s fr=.ok g ah->bI M B h S fr aj->MI P' w s g M B h S fr aj ah
end
section
variable{P:aP}{P':Ev.aP}{w:Nat}(HP:qv P P')
include HP
def IT{i:Nat}{e:E}:pS P P' w (.set i e):=λ{fr g ah M B h S aj} z f=>by
 simp only[ex]at z;replace z:=ai z;obtain⟨x,aq,z1,z⟩:=z;by_cases hn:isNew e=true
 .rw[JP hn]at z;have key:∃l ds h1 S1,x=.lst l/\av h1 S1 l ds/\Ev.ev P' e aj h=.ok (.ref h1.length) (h1++[.lst ds])/\Out M B (bM e) h S fr aj h1 S1 aq:=by
   cases e <;> (try simp only[isNew,aai]at hn)
   case lst es=>
    simp only[ev]at z1;replace z1:=ai z1;obtain⟨l,cL,z2,z1⟩:=z1;replace z1:=aI z1;obtain⟨z1,y0⟩:=z1;subst y0;unfold dQ at z1;split at z1
    case isFalse=>cases z1
    rename_i hk;cases z1;obtain⟨ds,h1,S1,e1,q1,o1⟩:=gz HP es z2 f;refine⟨l,ds,h1,S1,rfl,q1.n,?_,o1⟩;simp only[Ev.ev,e1,Ev.ak,Ev.alloc];rw[JP (by rw[<-q1.n.length];exact hk)]
   case gp it=>
    simp only[ev]at z1;replace z1:=ai z1;obtain⟨l,cL,z2,z1⟩:=z1;replace z1:=aI z1;obtain⟨z1,y0⟩:=z1;subst y0;unfold dQ at z1;split at z1
    case isFalse=>cases z1
    rename_i hk;cases z1;obtain⟨s,h1,S1,e1,q1,q2,o1⟩:=lO HP it z2 f;refine⟨l,s.1,h1,S1,rfl,q1,?_,o1⟩;simp only[Ev.ev,e1,Ev.ak,Ev.alloc];rw[JP (by rw[<-q1.length];exact hk)]
  obtain⟨l,ds,h1,S1,rfl,q1,e1,o1⟩:=key;simp only at z;replace z:=ai z;obtain⟨cL,gT,z2,z⟩:=z;replace z2:=aI z2;obtain⟨z2,y0⟩:=z2;subst y0;cases z;have o2:=o1.f.own z2 q1;exact⟨.nx,_,_,_,_,by simp only[Ev.ex,e1,Ev.ak],rfl,o1.s.trans f o2⟩
 .rw[Yu hn]at z;replace z:=ai z;obtain⟨cL,gT,z2,z⟩:=z;replace z2:=aI z2;obtain⟨z2,y0⟩:=z2;subst y0;cases z;obtain⟨d,h1,S1,e1,q1,o1⟩:=br HP e z1 f;obtain⟨f2,l2,r2⟩:=o1.f.set z2 q1.n;refine⟨.nx,_,_,_,_,by simp only[Ev.ex,e1,Ev.ak],rfl,o1.s.trans f ⟨f2,(eX.refl f2).tr,l2,r2⟩⟩
def IU{l:List Nat}{e:E}:pS P P' w (.zP l e):=λ{fr g ah M B h S aj} z f=>by
 simp only[ex]at z;replace z:=ai z;obtain⟨x,aq,z1,z⟩:=z;replace z:=ai z;obtain⟨cL,gT,z2,z⟩:=z;replace z2:=aI z2;obtain⟨z2,y0⟩:=z2;subst y0;cases z;obtain⟨d,h1,S1,e1,q1,o1⟩:=br HP e z1 f;obtain⟨ju,b1,f2,l2,r2⟩:=o1.f.cJ z2 q1.n;exact⟨.nx,_,_,_,_,by simp only[Ev.ex,e1,Ev.ak,b1],rfl,o1.s.trans f ⟨f2,(eX.refl f2).tr,l2,r2⟩⟩
def MJ{e:E}:pS P P' w (.exp e):=λ{fr g ah M B h S aj} z f=>by
 simp only[ex]at z;replace z:=ai z;obtain⟨x,aq,z1,z⟩:=z;cases z;obtain⟨d,h1,S1,e1,q1,o1⟩:=br HP e z1 f;exact⟨.nx,_,_,_,_,by simp only[Ev.ex,e1,Ev.ak],rfl,o1.s⟩
def MK{e:E}:pS P P' w (.ret e):=λ{fr g ah M B h S aj} z f=>by
 simp only[ex]at z;replace z:=ai z;obtain⟨x,aq,z1,z⟩:=z;cases z;obtain⟨M1,S1,o1⟩:=f.dN;obtain⟨d,h2,S2,e1,q1,o2⟩:=br HP e z1 o1.f;exact⟨.ret d,_,_,_,_,by simp only[Ev.ex,e1,Ev.ak],⟨d,rfl,q1.n⟩,o1.trans f o2.s⟩
omit HP in
theorem sd{F:V->Fr->R Fl}{F':D->Ev.Fr->Hh->Ev.R (Ev.Fl×Ev.Fr)}{ck:List (Nat×List D)}{B:Nat->Prop}{M0:Nat->Prop}{h0:Hh}{S0:Nat->Prop}{dZ:Fr}{En:Ev.Fr}(f0:bI M0 B h0 S0 dZ En)(st:∀q∈ck,bA h0 q.1=some q.2/\¬ M0 q.1)
  (turn:∀v d fr g ah M h S aj,F v fr=.ok g ah->bI M B h S fr aj->Rep h S v d->∃g' bW M' h' S',F' d aj h=.ok (g',bW) h'/\iB h' S' g g'/\eX M B h S fr aj M' h' S' ah bW) :
  ∀{vs:List V} {ds:List D} {fr:Fr} {g:Fl} {ah:Fr} {M:Nat->Prop} {h:Hh} {S:Nat->Prop} {aj:Ev.Fr},forL F vs fr=.ok g ah->eX M0 B h0 S0 dZ En M h S fr aj->av h S vs ds->
  ∃g' bW M' h' S',Ev.forL F' ck ds aj h=.ok (g',bW) h'/\iB h' S' g g'/\eX M0 B h0 S0 dZ En M' h' S' ah bW
 |[],ds,fr,g,ah,M,h,S,aj,e,o,q=>by
  simp only[forL]at e;simp only[av]at q;subst q;cases e;refine⟨.nx,aj,M,h,S,?_,rfl,o⟩;simp only[Ev.forL];rw[JP (j3 λx hx=>mz (st x hx).1 (o.tr.keep _ (qx (st x hx).1) (st x hx).2))]
 |v :: vs,ds,fr,g,ah,M,h,S,aj,e,o,q=>by
  simp only[forL]at e;replace e:=ai e;obtain⟨p,aq,e1,e⟩:=e;simp only[av]at q;obtain⟨d,es,rfl,q1,q2⟩:=q;obtain⟨g',mC,M2,h2,S2,t1,t2,t3⟩:=turn v d fr p aq M h S aj e1 o.f q1;have o2:=o.trans f0 t3;have iO:Ev.stays h ck=true:=j3 λx hx=>mz (st x hx).1 (o.tr.keep _ (qx (st x hx).1) (st x hx).2);have Ul:av h2 S2 vs es:=q2.mono (λm z=>t3.tr.keep m (o.f.wS m z).1 (o.f.wS m z).2.1) t3.tr.sub;cases p with
  |nx=>
   simp only[iB]at t2;subst t2;simp only at e;obtain⟨qC,ju,M3,h3,S3,u1,u2,u3⟩:=sd f0 st turn e o2 Ul;refine⟨qC,ju,M3,h3,S3,?_,u2,u3⟩;simp only[Ev.forL];rw[JP iO,t1,Ev.ak];exact u1
  |ct=>
   simp only[iB]at t2;subst t2;simp only at e;obtain⟨qC,ju,M3,h3,S3,u1,u2,u3⟩:=sd f0 st turn e o2 Ul;refine⟨qC,ju,M3,h3,S3,?_,u2,u3⟩;simp only[Ev.forL];rw[JP iO,t1,Ev.ak];exact u1
  |bk=>
   simp only[iB]at t2;subst t2;simp only at e;cases e;refine⟨.nx,mC,M2,h2,S2,?_,rfl,o2⟩;simp only[Ev.forL];rw[JP iO,t1,Ev.ak]
  |ret x=>
   simp only[iB]at t2;obtain⟨d2,rfl,t2⟩:=t2;simp only at e;cases e;refine⟨.ret d2,mC,M2,h2,S2,?_,⟨d2,rfl,t2⟩,o2⟩;simp only[Ev.forL];rw[JP iO,t1,Ev.ak]
def ML{t:T}{it:It}{b:Ss}(ib:qB P P' w b):pS P P' w (.for t it b):=λ{fr g ah M B h S aj} z f=>by
 simp only[ex]at z;replace z:=ai z;obtain⟨vs,aq,z1,z⟩:=z;obtain⟨M1,S1,o1⟩:=f.walk (itv it);obtain⟨s,h2,S2,e1,q1,q2,o2⟩:=lO HP it z1 o1.f;have o3:=o1.trans f o2.s;obtain⟨g',bW,M',h',S',u1,u2,u3⟩:=sd (F':=λd aq h2=>match Ev.cJ t d aq with
   |some cL=>Ev.exs P' w b cL h2
   |none=>.bad) (ck:=s.2) o2.f (λq hq=>⟨(q2 q hq).1,(q2 q hq).2 rfl⟩) (λv d fr g ah M h S aj y f q=>by
  split at y
  .rename_i cL y1;obtain⟨ju,b1,b2,b3,b4⟩:=f.cJ y1 q;rw[b1];obtain⟨g',bW,M',h',S',c1,c2,c3⟩:=ib y b2;exact⟨g',bW,M',h',S',c1,c2,(⟨b2,(eX.refl b2).tr,b3,b4⟩:eX M _ h S fr aj M h S cL ju).trans f c3⟩
  .cases y) z (eX.refl o2.f) q1
 refine⟨g',bW,M',h',S',?_,u2,o3.trans f u3⟩;simp only[Ev.ex,e1,Ev.ak];exact u1
theorem wo{t:E}{b:Ss}(ib:qB P P' w b):∀(n:Nat) {fr:Fr}{g:Fl}{ah:Fr}{M B:Nat->Prop}{h:Hh}{S:Nat->Prop}{aj:Ev.Fr},eW (λaq=>aN P t aq) (λaq=>exs P w b aq) n fr=.ok g ah->bI M B h S fr aj->
  ∃g' bW M' h' S',Ev.eW (λaq h2=>Ev.aN P' t aq h2) (λaq h2=>Ev.exs P' w b aq h2) n aj h=.ok (g',bW) h'/\iB h' S' g g'/\eX M B h S fr aj M' h' S' ah bW
 |0,_,_,_,_,_,_,_,_,z,_=>by simp only[eW]at z;cases z
 |n+1,fr,g,ah,M,B,h,S,aj,z,f=>by
  simp only[eW]at z;replace z:=ai z;obtain⟨k,aq,z1,z⟩:=z;obtain⟨h1,S1,e1,o1⟩:=gU HP t z1 f;cases k with
  |false=>
   simp only[aai,aaL]at z;cases z;refine⟨.nx,aj,M,h1,S1,?_,rfl,o1.s⟩;simp only[Ev.eW,e1,Ev.ak];rw[Yu (by decide)]
  |true=>
   simp only[aal]at z;replace z:=ai z;obtain⟨p,cL,z2,z⟩:=z;obtain⟨g',ju,M2,h2,S2,t1,t2,t3⟩:=ib z2 o1.f;have o2:=o1.s.trans f t3;cases p with
   |nx=>
    simp only[iB]at t2;subst t2;simp only at z;obtain⟨qC,Ep,M3,h3,S3,u1,u2,u3⟩:=wo ib n z t3.f;refine⟨qC,Ep,M3,h3,S3,?_,u2,o2.trans f u3⟩;simp only[Ev.eW,e1,Ev.ak,aal,t1];exact u1
   |ct=>
    simp only[iB]at t2;subst t2;simp only at z;obtain⟨qC,Ep,M3,h3,S3,u1,u2,u3⟩:=wo ib n z t3.f;refine⟨qC,Ep,M3,h3,S3,?_,u2,o2.trans f u3⟩;simp only[Ev.eW,e1,Ev.ak,aal,t1];exact u1
   |bk=>
    simp only[iB]at t2;subst t2;simp only at z;cases z;refine⟨.nx,ju,M2,h2,S2,?_,rfl,o2⟩;simp only[Ev.eW,e1,Ev.ak,aal,t1]
   |ret x=>
    simp only[iB]at t2;obtain⟨d2,rfl,t2⟩:=t2;simp only at z;cases z;refine⟨.ret d2,ju,M2,h2,S2,?_,⟨d2,rfl,t2⟩,o2⟩;simp only[Ev.eW,e1,Ev.ak,aal,t1]
def MM{t:E}{a b:Ss}(ia:qB P P' w a)(ib:qB P P' w b):pS P P' w (.iff t a b):=λ{fr g ah M B h S aj} z f=>by
 simp only[ex]at z;replace z:=ai z;obtain⟨k,aq,z1,z⟩:=z;obtain⟨h1,S1,e1,o1⟩:=gU HP t z1 f;cases k with
 |true=>
  simp only[aal]at z;obtain⟨g',bW,M',h',S',c1,c2,c3⟩:=ia z o1.f;exact⟨g',bW,M',h',S',by simp only[Ev.ex,e1,Ev.ak,aal,c1],c2,o1.s.trans f c3⟩
 |false=>
  simp only[aai,aaL]at z;obtain⟨g',bW,M',h',S',c1,c2,c3⟩:=ib z o1.f;exact⟨g',bW,M',h',S',by simp only[Ev.ex,e1,Ev.ak];rw[Yu (by decide)];exact c1,c2,o1.s.trans f c3⟩
mutual
theorem Q2:∀s:S,pS P P' w s
 |.set _ _=>IT HP
 |.zP _ _=>IU HP
 |.exp _=>MJ HP
 |.ret _=>MK HP
 |.iff _ a b=>MM HP (lP a) (lP b)
 |.for _ _ b=>ML HP (lP b)
 |.oU _ b=>λz f=>by
  simp only[ex]at z;obtain⟨g',bW,M',h',S',c1,c2,c3⟩:=wo HP (lP b) w z f;exact⟨g',bW,M',h',S',by simp only[Ev.ex];exact c1,c2,c3⟩
 |.pass=>λz f=>by simp only[ex]at z;cases z;exact⟨.nx,_,_,_,_,by simp only[Ev.ex],rfl,.refl f⟩
 |.brk=>λz f=>by simp only[ex]at z;cases z;exact⟨.bk,_,_,_,_,by simp only[Ev.ex],rfl,.refl f⟩
 |.eS _=>λz _=>by simp only[ex]at z;cases z
 |.cnt=>λz f=>by simp only[ex]at z;cases z;exact⟨.ct,_,_,_,_,by simp only[Ev.ex],rfl,.refl f⟩
theorem lP:∀s:Ss,qB P P' w s
 |.nil=>λz f=>by simp only[exs]at z;cases z;exact⟨.nx,_,_,_,_,by simp only[Ev.exs],rfl,.refl f⟩
 |.cons s ss=>λz f=>by
  simp only[exs]at z;replace z:=ai z;obtain⟨p,aq,z1,z⟩:=z;obtain⟨g',mC,M2,h2,S2,t1,t2,t3⟩:=Q2 s z1 f;cases p with
  |nx=>
   simp only[iB]at t2;subst t2;simp only at z;obtain⟨qC,ju,M3,h3,S3,u1,u2,u3⟩:=lP ss z t3.f;exact⟨qC,ju,M3,h3,S3,by simp only[Ev.exs,t1,Ev.ak,u1],u2,t3.trans f u3⟩
  |ct=>
   simp only[iB]at t2;subst t2;simp only at z;cases z;exact⟨.ct,mC,M2,h2,S2,by simp only[Ev.exs,t1,Ev.ak],rfl,t3⟩
  |bk=>
   simp only[iB]at t2;subst t2;simp only at z;cases z;exact⟨.bk,mC,M2,h2,S2,by simp only[Ev.exs,t1,Ev.ak],rfl,t3⟩
  |ret x=>
   simp only[iB]at t2;obtain⟨d2,rfl,t2⟩:=t2;simp only at z;cases z;exact⟨.ret d2,mC,M2,h2,S2,by simp only[Ev.exs,t1,Ev.ak],⟨d2,rfl,t2⟩,t3⟩
end
end
theorem se{h:Hh}{S:Nat->Prop}{B:Nat->Prop}{h0:Hh}{S0:Nat->Prop}:∀{sl:List Sl}{ds:List D}{cs:Fr},sl.length=ds.length->
  (∀(a:Nat) s d,sl[a]?=some s->ds[a]?=some d->lI B B h0 S0 (some s) (some d)/\locked cs a=y9 (some s)/\(y9 (some s)=true->∃m es l s',d=.ref m/\h[m]?=some (.lst es)/\av h S l es/\cs[a]?=some (some s')/\s'.out=some l))->nB h S sl ds ((cs.take sl.length).filterMap λo=>o.bind Sl.out)
 |[],ds,cs,_,_=>by simp[nB]
 |s :: sl,[],cs,hl,_=>by simp at hl
 |s :: sl,d :: ds,[],hl,q=>by
  have ih:=se (h:=h) (S:=S) (sl:=sl) (ds:=ds) (cs:=[]) (by simpa using hl) λa s' d' e1 e2=>by
   obtain⟨w1,w2,w3⟩:=q (a+1) s' d' (by simpa using e1) (by simpa using e2);exact⟨w1,by simpa[locked]using w2,λz=>by obtain⟨_,_,_,_,_,_,_,y,_⟩:=w3 z;simp at y⟩
  obtain⟨w1,w2,w3⟩:=q 0 s d (by simp) (by simp);cases s with
  |val v=>simp at ih ⊢;exact⟨d,ds,rfl,ih⟩
  |own l=>exact absurd w1 (by rintro⟨m,es,e,q,_⟩;exact q.2 q.1)
  |bor l=>obtain⟨_,_,_,_,_,_,_,y,_⟩:=w3 rfl;simp at y
  |ro l=>obtain⟨_,_,_,_,_,_,_,y,_⟩:=w3 rfl;simp at y
 |s :: sl,d :: ds,o :: cs,hl,q=>by
  have ih:=se (h:=h) (S:=S) (sl:=sl) (ds:=ds) (cs:=cs) (by simpa using hl) λa s' d' e1 e2=>by
   obtain⟨w1,w2,w3⟩:=q (a+1) s' d' (by simpa using e1) (by simpa using e2);exact⟨w1,by simpa[locked]using w2,λz=>by simpa using w3 z⟩
  obtain⟨w1,w2,w3⟩:=q 0 s d (by simp) (by simp);cases s with
  |val v=>
   have:o.bind Sl.out=none:=by
    simp[locked]at w2;rcases o with _|s
    .rfl
    .cases s<;>first|rfl|cases w2
   simp only[aaf,aaS,aaJ,this];exact⟨d,ds,rfl,ih⟩
  |own l=>exact absurd w1 (by rintro⟨m,es,e,q,_⟩;exact q.2 q.1)
  |bor l=>
   obtain⟨m,es,l',s',a1,a2,a3,a4,a5⟩:=w3 rfl;simp at a4;subst a4;simp only[aaf,aaS,aaJ,Option.bind,a5];exact⟨d,ds,l',_,m,es,rfl,rfl,a1,a2,a3,ih⟩
  |ro l=>
   obtain⟨m,es,l',s',a1,a2,a3,a4,a5⟩:=w3 rfl;simp at a4;subst a4;simp only[aaf,aaS,aaJ,Option.bind,a5];exact⟨d,ds,l',_,m,es,rfl,rfl,a1,a2,a3,ih⟩
def MN{fn:Fn}{sl:List Sl}{ds:List D}{B:Nat->Prop}{h:Hh}{S:Nat->Prop}(F0:bI B B h S (sl.map some) (ds.map some))(hlen:sl.length=ds.length):bI B B h S (dZ fn sl) (Ev.dZ fn ds):=by
 unfold dZ Ev.dZ;have sp:∀(i:Nat) o,(sl.map some++List.replicate (fn.ns - fn.np) none)[i]?=some o->(sl.map some)[i]?=some o\/(sl.length<=i/\o=none):=λi o y=>by
  by_cases hi:i<sl.length
  .rw[Xk (by simpa using hi)]at y;exact .inl y
  .rw[aaT (by simpa using hi)]at y;have:=aam y;exact .inr ⟨by omega,(List.mem_replicate.mp this).2⟩
 have lo:∀(i:Nat) p,i<sl.length->(ds.map some++List.replicate (fn.ns - fn.np) none)[i]?=some p->(ds.map some)[i]?=some p:=λi p hi y=>by
  rw[Xk (by simpa[<-hlen]using hi)]at y;exact y
 refine⟨F0.wS,F0.wM,F0.wB,by simp[hlen],λi o p y1 y2=>?_,λi j o o' m y1 y2 y3 y4 y5 y6=>?_⟩
 .rcases sp i o y1 with y1|⟨hi,rfl⟩
  .have hi:i<sl.length:=by have:=(List.getElem?_eq_some_iff.mp y1).1;simpa using this
   exact F0.sl i o p y1 (lo i p hi y2)
  .rw[aaT (by simpa[<-hlen]using hi)]at y2;have:=aam y2;exact(List.mem_replicate.mp this).2
 .rcases sp i o y1 with y1|⟨hi,rfl⟩
  .rcases sp j o' y2 with y2|⟨hj,rfl⟩
   .have hi:i<sl.length:=by have:=(List.getElem?_eq_some_iff.mp y1).1;simpa using this
    have hj:j<sl.length:=by have:=(List.getElem?_eq_some_iff.mp y2).1;simpa using this
    exact F0.inj i j o o' m y1 y2 y3 y4 (lo i _ hi y5) (lo j _ hj y6)
   .cases y4
  .cases y3
theorem Cp(F:List Fn)(w:Nat):∀n,qv (run F w n) (Ev.run F w n)
 |0=>λf sl v os e=>by simp[run]at e
 |n+1=>λf sl v os e h S B ds F0=>by
  have HP:=Cp F w n;simp only[run]at e;cases z:F[f]? with
  |none=>rw[z]at e;cases e
  |some fn=>
  rw[z]at e;simp only at e;split at e
  case isFalse=>cases e
  rename_i hl;have hlen:sl.length=ds.length:=by have:=F0.len;simpa using this
  have f1:bI B B h S (dZ fn sl) (Ev.dZ fn ds):=MN F0 hlen;have fin:∀{g:Fl} {ah:Fr},exs (run F w n) w fn.body (dZ fn sl)=.ok g ah->∃g' bW M' h' S',Ev.exs (Ev.run F w n) w fn.body (Ev.dZ fn ds) h=.ok (g',bW) h'/\iB h' S' g g'/\Tk B h S h' S'/\nB h' S' sl ds (outs fn.np ah):=λ{g ah} y=>by
   obtain⟨g',bW,M',h',S',c1,c2,c3⟩:=lP HP fn.body y f1;refine⟨g',bW,M',h',S',c1,c2,⟨c3.tr.len,λm y1 y2=>c3.tr.keep m y1 y2,c3.tr.sub,λm q=>?_⟩,?_⟩
   .rcases c3.tr.new m q with q|q|q
    .exact .inl q
    .exact .inr q
    .exact absurd q.1 q.2
   .unfold outs;rw[<-hl];refine se (B:=B) (h0:=h) (S0:=S) hlen λa s d e1 e2=>?_;have ha:a<sl.length:=(List.getElem?_eq_some_iff.mp e1).1;have h0:(dZ fn sl)[a]?=some (some s):=by unfold dZ;rw[Xk (by simpa using ha)];simp[e1]
    have hlk:locked ah a=y9 (some s):=by rw[c3.lk a];unfold locked;rw[h0]
    refine⟨F0.sl a _ _ (by simp[e1]) (by simp[e2]),hlk,λhk=>?_⟩;have hr:=c3.rf a (by unfold locked;rw[h0];exact hk);have hd:(Ev.dZ fn ds)[a]?=some (some d):=by unfold Ev.dZ;rw[Xk (by simpa[<-hlen]using ha)];simp[e2]
    rw[hd]at hr;cases y2:ah[a]? with
    |none=>unfold locked at hlk;rw[y2]at hlk;rw[<-hlk]at hk;cases hk
    |some o=>
     have sr:=c3.f.sl a _ _ y2 hr;unfold locked at hlk;rw[y2,hk]at hlk;rcases o with _|s'
     .cases hlk
     .cases s' with
      |val v=>cases hlk
      |own l=>cases hlk
      |bor l=>obtain⟨m,es,e,_,k1,k2⟩:=sr;cases e;exact⟨m,es,l,_,rfl,k1,k2,rfl,rfl⟩
      |ro l=>obtain⟨m,es,e,_,k1,k2⟩:=sr;cases e;exact⟨m,es,l,_,rfl,k1,k2,rfl,rfl⟩
  simp only[Ev.qk,z];have hl':ds.length=fn.np:=by omega
  rw[JP hl'];split at e
  .rename_i v' ah y;cases e;obtain⟨g',bW,M',h',S',c1,c2,c3,c4⟩:=fin y;simp only[iB]at c2;obtain⟨d,rfl,c2⟩:=c2;exact⟨d,h',S',by simp only[Ev.endOf,c1,Ev.ak],c2,c3,c4⟩
  .rename_i ah y;cases e;obtain⟨g',bW,M',h',S',c1,c2,c3,c4⟩:=fin y;simp only[iB]at c2;subst c2;exact⟨.bz,h',S',by simp only[Ev.endOf,c1,Ev.ak],rfl,c3,c4⟩
  .cases e
end Pv
namespace Pv
open Ev (D O Hh Fn)
def IV{F:List Fn}{w n f:Nat}{ns:List Int}(e:run F w n f [.val (.bU (ns.map V.int))]=some (.bl true,[]))(hF:F.length<=1000:=by decide):∃h',Ev.run F w n f [.ref 0] [.bU (ns.map D.int)]=.ok (.bl true) h':=by
 have F0:bI (λ_=>False) (λ_=>False) [O.bU (ns.map D.int)] (λm=>m=0) ([Sl.val (.bU (ns.map V.int))].map some) ([D.ref 0].map some):=by
  refine⟨λm q=>⟨by subst q;simp,id,id⟩,λm q=>q.elim,λm q=>q.elim,rfl,λi o p y1 y2=>?_,λi j o o' m y1 y2 y3 y4 y5 y6=>?_⟩
  .cases i with
   |zero=>
    simp at y1 y2;subst y1 y2;refine⟨.ref 0,rfl,?_⟩;simp only[Rep];exact⟨0,_,rfl,rfl,rfl,av.map (f:=V.int) (g:=D.int) (λ_=>by simp[Rep]) ns⟩
   |succ i=>simp at y1
  .cases i with
   |zero=>simp at y1;subst y1;cases y3
   |succ i=>simp at y1
 obtain⟨d,h',S',a,b,_,_⟩:=Cp F w n f _ _ _ e _ _ _ _ F0;simp only[Rep]at b;subst b;exact⟨h',a⟩
end Pv
namespace Pv
open Ev (D bJ bx TY BI ME T E Es Eo It S Ss Fn big deep b2i rep bT dO bL aS cut bE cY slots)
def aZ{n:Nat}(h:n<=100000):n<=big:=aaa h (by decide)
section
variable{i j:Int}{a b:List Nat}{x y:List V}{d e:V}{m n:Nat}{k l:Bool}
def bK(h:x.length<=big):dQ x=some (.lst x):=by simp[dQ,h]
def lQ(h:x.length<=big):iV x=some (.tup x):=by simp[iV,h]
@[simp] theorem kB:dQ []=some (.lst []):=bK (aZ (by simp))
@[simp] theorem uT:iV []=some (.tup []):=lQ (aZ (by simp))
@[simp] theorem Q3{a}:dQ [a]=some (.lst [a]):=bK (aZ (by simp))
@[simp] theorem oA{a}:iV [a]=some (.tup [a]):=lQ (aZ (by simp))
@[simp] theorem Q4{a b}:dQ [a,b]=some (.lst [a,b]):=bK (aZ (by simp))
@[simp] theorem fL{a b}:iV [a,b]=some (.tup [a,b]):=lQ (aZ (by simp))
@[simp] theorem Q5{a b c}:iV [a,b,c]=some (.tup [a,b,c]):=lQ (aZ (by simp))
@[simp] theorem cI:bV .add (.int i) (.int j)=some (.int (i+j)):=nd rfl
def dU(h:a.length+b.length<=100000):bV .add (.str a) (.str b)=some (.str (a++b)):=by delta bV;dsimp only;simp[aZ h]
def pT(h:x.length+y.length<=100000):bV .add (.tup x) (.tup y)=some (.tup (x++y)):=by delta bV;dsimp only;simp[aZ h]
def Er(h:x.length+y.length<=100000):bV .add (.lst x) (.lst y)=some (.lst (x++y)):=by delta bV;dsimp only;simp[bK (aZ (show(x++y).length<=100000 by simpa using h))]
@[simp] theorem wu:bV .sub (.int i) (.int j)=some (.int (i - j)):=nd rfl
@[simp] theorem pU:bV .mul (.int i) (.int j)=if bT i j then some (.int (i*j))else none:=nd rfl
def Et(h0:0<=j)(h1:j<=1000)(h2:a.length<=1000):bV .mul (.str a) (.int j)=some (.str (rep j.toNat a)):=by delta bV;dsimp only;simp[h0,h1,h2]
@[simp] theorem Eu:bV .fdiv (.int i) (.int j)=if 0<j/\j<1073741824 then some (.int (i / j))else none:=nd rfl
@[simp] theorem IW:bV .mod (.int i) (.int j)=if 0<j then some (.int (i % j))else none:=nd rfl
@[simp] theorem Cq:cop .eq d e=dM deep d e:=nd rfl
@[simp] theorem nF:cop .ne d e=(dM deep d e).map (!·):=nd rfl
@[simp] theorem Cr:cop .fq d e=(isin d e).map (!·):=nd rfl
@[simp] theorem Ew:isin d (.lst x)=mem d x:=nd rfl
@[simp] theorem pV{c:Nat}:isin (.str [c]) (.str b)=some (b.contains c):=nd rfl
@[simp] theorem mem_cons:mem d (e :: x)=(dM deep e d).bind λb=>(mem d x).bind λc=>some (b ||c):=nd rfl
@[simp] theorem MO:dM (n+1) (.int i) (.int j)=some (decide (i=j)):=by show some (i==j)=_;by_cases h:i=j<;>simp[h]
@[simp] theorem wz:dM (n+1) (.str a) (.str b)=some (decide (a=b)):=by show some (a==b)=_;by_cases h:a=b<;>simp[h]
@[simp] theorem MP:dM (n+1) (.bl k) (.bl l)=some (decide (k=l)):=by cases k<;>cases l<;>rfl
@[simp] theorem MQ:dM (n+1) .bz .bz=some true:=nd rfl
@[simp] theorem Yc:dM (n+1) (.str a) (.int i)=some false:=nd rfl
@[simp] theorem Yd:dM (n+1) (.int i) (.str a)=some false:=nd rfl
@[simp] theorem Ye:dM (n+1) (.tup x) (.tup y)=cO (dM n) x y:=nd rfl
@[simp] theorem zf:dM deep (.int i) (.int j)=some (decide (i=j)):=MO
@[simp] theorem sj:dM deep (.str a) (.str b)=some (decide (a=b)):=wz
@[simp] theorem IX:dM deep (.bl k) (.bl l)=some (decide (k=l)):=MP
@[simp] theorem oB:dM deep (.lst x) (.lst y)=cO (dM (18+1)) x y:=nd rfl
@[simp] theorem zg{f:V->V->Option Bool}:cO f [] []=some true:=nd rfl
@[simp] theorem Yg{f:V->V->Option Bool}:cO f [] (d :: x)=some false:=nd rfl
@[simp] theorem Yh{f:V->V->Option Bool}:cO f (d :: x) []=some false:=nd rfl
@[simp] theorem pW{f:V->V->Option Bool}:cO f (d :: x) (e :: y)=(f d e).bind λb=>(cO f x y).bind λc=>some (b&&c):=nd rfl
theorem jM{α:Type}[DecidableEq α]{f:V->V->Option Bool}{g:α->V}(h:∀a b,f (g a) (g b)=some (decide (a=b))):∀l m:List α,cO f (l.map g) (m.map g)=some (decide (l=m))
 |[],[]=>by simp
 |[],_ :: _=>by simp
 |_ :: _,[]=>by simp
 |a :: l,b :: m=>by simp[h,jM h l m]
@[simp] theorem su:gf (.str a) (.int i)=(bL a i).map λc=>.str [c]:=nd rfl
@[simp] theorem IY:gf (.lst x) (.int i)=bL x i:=nd rfl
@[simp] theorem fk{lo hi:Option Int}:eV (.str a) lo hi=some (.str (cut a lo hi)):=nd rfl
@[simp] theorem IZ:lJ (.lst x)=dQ x.reverse:=nd rfl
def abh(h:a.length<=100000):cH .len [.str a]=some (.int a.length):=by delta cH;dsimp only;simp[aZ h]
@[simp] theorem oE:cH .len [.tup x]=some (.int x.length):=nd rfl
@[simp] theorem zh:cH .len [.lst x]=some (.int x.length):=nd rfl
@[simp] theorem zj:cH .len [.bU x]=some (.int x.length):=nd rfl
@[simp] theorem sy:cH .all [.lst x]=(boolsOf x).map λbs=>.bl (bs.all id):=nd rfl
@[simp] theorem I0:cH .sum [.lst x]=(intsOf x).map λis=>.int is.sum:=nd rfl
@[simp] theorem MR:cH .min [.int i,.int j]=some (.int (if j<i then j else i)):=nd rfl
@[simp] theorem zk:toT (.lst x)=iV x:=nd rfl
def MS(h0:0<=j)(h1:j<=100000):eH [.int j]=some (range 0 j.toNat):=by
 simp only[eH];rw[JP ⟨by omega,by omega⟩]
def Wu(h0:-100000<=i)(h1:i<=100000)(h2:-100000<=j)(h3:j<=100000):eH [.int i,.int j]=some (range i (j - i).toNat):=by
 simp only[eH];rw[JP ⟨by omega,by omega,by omega,by omega⟩]
def kT{α:Type}(g:α->Bool)(l:List α):boolsOf (l.map λx=>.bl (g x))=some (l.map g):=by induction l<;>simp[boolsOf, *]
def Aq{α:Type}(g:α->Int)(l:List α):intsOf (l.map λx=>.int (g x))=some (l.map g):=by induction l<;>simp[intsOf, *]
def mD{α:Type}(g:α->List Nat)(l:List α):strsOf (l.map λx=>.str (g x))=some (l.map g):=by induction l<;>simp[strsOf, *]
theorem ug:∀l:List (List Nat),bE [] l=l.flatten
 |[]=>rfl
 |[s]=>by simp[bE]
 |s :: t :: r=>by simp[bE,ug (t :: r)]
@[simp] theorem Yi:truthy (.bl k)=k:=nd rfl
@[simp] theorem Xi:truthy (.lst x) = !x.isEmpty:=nd rfl
def qD{l:List (List Nat)}(h:l.flatten.length<=100000):dz .join (.str []) [.lst (l.map V.str)]=some (.str l.flatten):=by
 have hs:=mD (λx=>x) l;have:(l.map (·.length)).sum<=big:=aZ (by rw[<-List.length_flatten];exact h);simp only[List.map_id']at hs;have hs':strsOf (l.map V.str)=some l:=by simpa using mD (λx=>x) l
 delta dz;dsimp only;simp[o7,hs',ug,this]
end
def cD{α:Type}{f:V->Option (Option V)}(e:α->V)(g:α->V)(l:List α)(h:∀a∈l,f (e a)=some (some (g a))):bR f (l.map e)=some (l.map g):=by
 induction l with
 |nil=>rfl
 |cons a l ih=>simp only[Uz,bR,h a (by simp),ih λu hu=>h u (by simp[hu]),Option.bind];rfl
def j4{α:Type}{f:V->Option (Option V)}(e:α->V)(p:α->Bool)(g:α->V)(l:List α)(h:∀a∈l,f (e a)=some (if p a then some (g a)else none)):bR f (l.map e)=some ((l.filter p).map g):=by
 induction l with
 |nil=>rfl
 |cons a l ih=>
  simp only[Uz,bR,h a (by simp),ih λu hu=>h u (by simp[hu]),Option.bind];cases z:p a<;>simp[z]
noncomputable def Wp{α:Type}(r:R α)(Q:α->Fr->Prop):Prop:=∃a h,r=.ok a h/\Q a h
section
variable{α β:Type}{Q Q':α->Fr->Prop}
@[simp] theorem qE(a:α)(h:Fr):Wp (.ok a h) Q=Q a h:=propext ⟨λ⟨_,_,e,q⟩=>by cases e;exact q,λq=>⟨_,_,rfl,q⟩⟩
@[simp] theorem Yj:Wp (.bad:R α) Q=False:=propext ⟨λq=>(by obtain⟨_,_,e,_⟩:=q;cases e),False.elim⟩
@[simp] theorem wp_bind(r:R β)(f:β->Fr->R α):Wp (r.bind f) Q=Wp r λa h=>Wp (f a h) Q:=by cases r<;>simp
def Wp.mono{r:R α}(h:Wp r Q)(f:∀a h,Q a h->Q' a h):Wp r Q':=by
 obtain⟨a,h',e,q⟩:=h;exact⟨a,h',e,f a h' q⟩
end
noncomputable def fl(I Q:Fr->Prop)(X:V->Fr->Prop):Fl->Fr->Prop
 |.nx,fr=>I fr
 |.ct,fr=>I fr
 |.bk,fr=>Q fr
 |.ret v,fr=>X v fr
section
variable{I J:Fr->Prop}{X:V->Fr->Prop}{fr:Fr}
@[simp] theorem dw:fl I J X .nx fr=I fr:=nd rfl
end
theorem fO{α:Type}{e:α->V}{f:V->Fr->R Fl}{Q:Fl->Fr->Prop}(I:List α->List α->Fr->Prop)(turn:∀p a l fr,I p (a :: l) fr->Wp (f (e a) fr) (fl (I (p++[a]) l) (Q .nx) λv=>Q (.ret v)))(fin:∀p fr,I p [] fr->Q .nx fr):∀(l p:List α) (fr:Fr),I p l fr->Wp (forL f (l.map e) fr) Q
 |[],p,fr,i=>by simp only[abZ,forL,qE];exact fin p fr i
 |a :: l,p,fr,i=>by
  simp only[Uz,forL,wp_bind];refine(turn p a l fr i).mono λg h2 q=>?_;cases g with
  |nx=>exact fO I turn fin l _ h2 q
  |ct=>exact fO I turn fin l _ h2 q
  |bk=>exact(qE _ _).mpr q
  |ret x=>exact(qE _ _).mpr q
def zl{f:V->Fr->R Fl}{Q:Fl->Fr->Prop}{lo:Int}{N:Nat}(I:Nat->Fr->Prop)(turn:∀(k:Nat) fr,k<N->I k fr->Wp (f (.int (lo+(k:Nat))) fr) (fl (I (k+1)) (Q .nx) λv=>Q (.ret v)))(fin:∀fr,I N fr->Q .nx fr){fr:Fr}(i:I 0 fr):Wp (forL f (range lo N) fr) Q:=by
 have h:=fO (e:=λ(k:Nat)=>V.int (lo+k)) (f:=f) (Q:=Q) (λp l fr=>∃k,k<=N/\p=List.range k/\p++l=List.range N/\I k fr)
  (λp a l fr ⟨k,hk,hp,hl,q⟩=>by
   subst hp;have hlen:=aab List.length hl;simp at hlen;have ha:a=k:=by
    have:=aab (·[k]?) hl;simp[aaT]at this;rw[abu (by omega)]at this;simpa using this
   subst ha;refine(turn a fr (by omega) q).mono λg h2 z=>?_;cases g with
   |nx=>exact⟨a+1,by omega,by simp[abw],by simpa using hl,z⟩
   |ct=>exact⟨a+1,by omega,by simp[abw],by simpa using hl,z⟩
   |bk=>exact z
   |ret x=>exact z)
  (λp fr ⟨k,hk,hp,hl,q⟩=>by
   subst hp;have hlen:=aab List.length hl;simp at hlen;subst hlen;exact fin fr q) (List.range N) [] fr ⟨0,aaW _,rfl,by simp,i⟩
 exact h
theorem qF{t:Fr->R Bool}{f:Fr->R Fl}{Q:Fl->Fr->Prop}(I:Nat->Fr->Prop)(turn:∀k fr,I k fr->Wp (t fr) λb ah=>if b then Wp (f ah) (fl (λaq=>∃j,j<k/\I j aq) (Q .nx) λv=>Q (.ret v))else Q .nx ah):∀(n k:Nat) (fr:Fr),k<n->I k fr->Wp (eW t f n fr) Q
 |0,k,fr,hk,_=>by omega
 |n+1,k,fr,hk,i=>by
  simp only[eW,wp_bind];refine(turn k fr i).mono λb ah q=>?_;cases b with
  |false=>simpa using q
  |true=>
   simp only[aal,wp_bind]at q ⊢;refine q.mono λg aq z=>?_;cases g with
   |nx=>obtain⟨j,hj,z⟩:=z;exact qF I turn n j aq (by omega) z
   |ct=>obtain⟨j,hj,z⟩:=z;exact qF I turn n j aq (by omega) z
   |bk=>exact(qE _ _).mpr z
   |ret x=>exact(qE _ _).mpr z
noncomputable def fin(fn:Fn)(ds:List Sl):R Fl->Option (V×List (List V))
 |.ok (.ret v) fr=>some (v,outs fn.np fr)
 |.ok .nx fr=>some (.bz,outs fn.np fr)
 |_=>Mh fn ds
@[simp] theorem Ja{fn:Fn}{ds:List Sl}{v:V}{fr:Fr}:fin fn ds (.ok (.ret v) fr)=some (v,outs fn.np fr):=nd rfl
def run_eq{F:List Fn}{w n f:Nat}{ds:List Sl}{fn:Fn}(hf:F[f]?=some fn)(hl:ds.length=fn.np):run F w (n+1) f ds=fin fn ds (exs (run F w n) w fn.body (dZ fn ds)):=by
 simp only[qk,hf,hl,aal];cases exs (run F w n) w fn.body (dZ fn ds)with
 |bad=>rfl
 |ok g fr=>cases g<;>rfl
def bu{F:List Fn}{w n f:Nat}{ds:List Sl}{fn:Fn}{v:V}{os:List (List V)}(hf:F[f]?=some fn)(hl:ds.length=fn.np)(q:Wp (exs (run F w n) w fn.body (dZ fn ds)) λg fr=>g=.ret v/\outs fn.np fr=os):run F w (n+1) f ds=some (v,os):=by
 rw[run_eq hf hl];obtain⟨g,fr,e,rfl,rfl⟩:=q;rw[e];rfl
section
variable{P:aP}{w:Nat}{fr:Fr}{k:Bool}{a b c:E}{es:Es}{ss sa sb:Ss}{st:S}{lo hi:Eo}{it:It}
@[simp] theorem Wv{d:D}:ev P k (.c d) fr=R.of (ofD d) fr:=by rw[ev]
@[simp] theorem Ww{i:Nat}:ev P k (.v i) fr=R.of (nv k fr i) fr:=by rw[ev]
@[simp] theorem MT:ev P k (.tup es) fr=(cC P false es fr).bind λds ah=>R.of (iV ds) ah:=by rw[ev]
@[simp] theorem MU:ev P k (.lst es) fr=(cC P false es fr).bind λds ah=>R.of (dQ ds) ah:=by rw[ev]
@[simp] theorem MV{o:bJ}:ev P k (.bin o a b) fr=(ev P (kf a (bM b)) a fr).bind λx ah=>(ev P true b ah).bind λy aq=>R.of (bV o x y) aq:=by rw[ev]
@[simp] theorem MW{o:bx}:ev P k (.cmp o a b) fr=(ev P (kf a (bM b)) a fr).bind λx ah=>(ev P true b ah).bind λy aq=>R.of ((cop o x y).map .bl) aq:=by rw[ev]
@[simp] theorem Q6{o p:bx}:ev P k (.ch o p a b c) fr=(ev P (kf a (bM b)) a fr).bind λx ah=>(ev P (kf b (bM c)) b ah).bind λy aq=>(R.of (cop o x y) aq).bind λk cL=>
   if k then (ev P true c cL).bind λz gT=>R.of ((cop p y z).map .bl) gT else .ok (.bl false) cL:=by rw[ev]
noncomputable def Yk:V->Fr->R V:=λx h1=>match x with
 |.bl b=>.ok (.bl (!b)) h1
 |_=>.bad
@[simp] theorem Q7:ev P k (.nt a) fr=(ev P true a fr).bind Yk:=by rw[ev];rfl
noncomputable def Wx:V->Fr->R V:=λx h1=>match x with
 |.int i=>.ok (.int (-i)) h1
 |_=>.bad
@[simp] theorem MX:ev P k (.neg a) fr=(ev P true a fr).bind Wx:=by rw[ev];rfl
noncomputable def Um(r:Fr->R V):V->Fr->R V:=λx h1=>match x with
 |.bl true=>r h1
 |.bl false=>.ok (.bl false) h1
 |_=>.bad
@[simp] theorem MY{k:Bool}{r:Fr->R V}:Um r (.bl k) fr=if k then r fr else .ok (.bl false) fr:=by cases k<;>rfl
@[simp] theorem Q8:ev P k (.an a b) fr=(ev P true a fr).bind (Um λh1=>ev P k b h1):=by rw[ev];rfl
@[simp] theorem MZ:ev P k (.iU a b c) fr=(aN P a fr).bind λt ah=>if t then ev P k b ah else ev P k c ah:=by rw[ev]
@[simp] theorem Q9:ev P k (.ix a b) fr=(ev P (kf a (bM b)) a fr).bind λx ah=>(ev P true b ah).bind λy aq=>R.of (gf x y) aq:=by rw[ev]
@[simp] theorem Ra:ev P k (.sl a lo hi) fr=(ev P (kf a (kR lo++kR hi)) a fr).bind λx ah=>(gr P lo ah).bind λl aq=>(gr P hi aq).bind λu cL=>R.of (eV x l u) cL:=by rw[ev]
@[simp] theorem Rb:ev P k (.rv a) fr=(ev P true a fr).bind λx ah=>R.of (lJ x) ah:=by rw[ev]
@[simp] theorem Rc{f:Nat}:ev P k (.cl f es) fr=(gu P es fr).bind λas ah=>fW P f as ah:=by rw[ev]
@[simp] theorem Rf{g:BI}:ev P k (.bi g es) fr=(cC P true es fr).bind λds ah=>R.of (cH g ds) ah:=by rw[ev]
noncomputable def Ex(m:ME)(i:Nat):List V->Fr->R V:=λds ah=>match ah[i]? with
 |some (some (.own l))=>match kq m l ds with
  |some (v,l')=>.ok v (ah.set i (some (.own l')))
  |none=>.bad
 |some (some (.bor l))=>match kq m l ds with
  |some (v,l')=>.ok v (ah.set i (some (.bor l')))
  |none=>.bad
 |_=>.bad
def M4{m:ME}{i:Nat}(hm:jg m=true):ev P k (.me m (.v i) es) fr=if (lent fr i).isSome then (cC P (B9 m) es fr).bind (Ex m i)else .bad:=by
 rw[ev,JP hm];unfold lM;cases z:(lent fr i).isSome<;>simp[z]<;>rfl
def M5{m:ME}(hm:jg m=false):ev P k (.me m a es) fr=(ev P (kf a (fV es)) a fr).bind λx ah=>(cC P true es ah).bind λds aq=>R.of (dz m x ds) aq:=by rw[ev,hm];rfl
@[simp] theorem M6{ts:List TY}:ev P k (.gx a ts) fr=(ev P true a fr).bind λx ah=>.ok (.bl (ts.any (dS x))) ah:=by rw[ev]
noncomputable def dX(P:aP)(elt:E)(t:T)(cond:Eo)(fr:Fr):V->Option (Option V):=λd=>match cJ t d (ue fr)with
 |none=>none
 |some aq=>match iK P cond aq with
  |.ok c _=>if c then (match ev P false elt aq with|.ok x _=>some (some x)|.bad=>none)else some none
  |.bad=>none
@[simp] theorem rT{elt:E}{t:T}{cond:Eo}:ev P k (.comp elt t it cond) fr=(cT P true it fr).bind λs ah=>if undef t ah then R.of ((bR (dX P elt t cond ah) s).bind dQ) ah else .bad:=by rw[ev];rfl
@[simp] theorem M7:ev P k (.gp it) fr=(cT P true it fr).bind λs ah=>R.of (dQ s) ah:=by rw[ev]
@[simp] theorem Jb{kvs:List (D×D)}:ev P k (.gP kvs a) fr=(ev P true a fr).bind λx ah=>R.of (fJ x kvs) ah:=by rw[ev]
@[simp] theorem M8:ev P k (.jA a) fr=(ev P true a fr).bind λx ah=>R.of (toT x) ah:=by rw[ev]
@[simp] theorem Jc:cC P k .nil fr=.ok [] fr:=by rw[cC]
@[simp] theorem Ey:cC P k (.cons a es) fr=(ev P (k&&kf a (fV es)) a fr).bind λd ah=>(cC P k es ah).bind λds aq=>.ok (d :: ds) aq:=by rw[cC]
@[simp] theorem Jd:gu P .nil fr=.ok [] fr:=by rw[gu]
noncomputable def Ar(P:aP)(a:E)(es:Es)(fr:Fr):Option Nat->R (List (Nat ⊕ V))
 |some i=>(gu P es fr).bind λr ah=>.ok (.inl i :: r) ah
 |none=>(ev P false a fr).bind λd ah=>(gu P es ah).bind λr aq=>.ok (.inr d :: r) aq
@[simp] theorem As{i:Nat}:Ar P a es fr (some i)=(gu P es fr).bind λr ah=>.ok (.inl i :: r) ah:=nd rfl
@[simp] theorem Au:Ar P a es fr none=(ev P false a fr).bind λd ah=>(gu P es ah).bind λr aq=>.ok (.inr d :: r) aq:=nd rfl
@[simp] theorem wA:gu P (.cons a es) fr=Ar P a es fr (lM fr a):=by rw[gu];cases lM fr a<;>rfl
@[simp] theorem M9:gr P .no fr=.ok none fr:=by rw[gr]
@[simp] theorem Je:gr P (.yes a) fr=(ev P true a fr).bind λd ah=>R.of ((intOf d).map some) ah:=by rw[gr]
@[simp] theorem Na:iK P .no fr=.ok true fr:=by rw[iK]
@[simp] theorem Jf:iK P (.yes a) fr=aN P a fr:=by rw[iK]
@[simp] theorem Cs:aN P (.an a b) fr=(aN P a fr).bind λk ah=>if k then aN P b ah else .ok false ah:=by rw[aN]
@[simp] theorem zm:aN P (.orr a b) fr=(aN P a fr).bind λk ah=>if k then .ok true ah else aN P b ah:=by rw[aN]
@[simp] theorem Nb:aN P (.nt a) fr=(aN P a fr).bind λk ah=>.ok (!k) ah:=by rw[aN]
noncomputable def Nc:V->Fr->R Bool:=λx ah=>.ok (truthy x) ah
@[simp] theorem Jg{x:V}:Nc x fr=.ok (truthy x) fr:=nd rfl
@[simp] theorem Jh:cT P k (.seq a) fr=(src k fr a (ev P k a fr)).bind λx ah=>R.of (gH x) ah:=by rw[cT]
@[simp] theorem Ji:cT P k (.gI es) fr=(cC P true es fr).bind λds ah=>R.of (eH ds) ah:=by rw[cT]
@[simp] theorem Jj:cT P k (.jV a b) fr=(ev P (kf a (bM b)) a fr).bind λx ah=>(ev P true b ah).bind λy aq=>R.of (pR x y) aq:=by rw[cT]
@[simp] theorem Jk:cT P k (.rev a) fr=(ev P true a fr).bind λx ah=>R.of ((Ak x).map λs=>s.reverse) ah:=by rw[cT]
noncomputable def Nd(i:Nat)(ah:Fr):V->R Fl
 |.lst l=>(R.of (put ah i (.own l)) ah).bind λaq _=>.ok .nx aq
 |_=>.bad
@[simp] theorem Ez{i:Nat}{l:List V}:Nd i fr (.lst l)=(R.of (put fr i (.own l)) fr).bind λaq _=>.ok .nx aq:=nd rfl
@[simp] theorem Ct{i:Nat}:ex P w (.set i a) fr=(ev P false a fr).bind λx ah=>if isNew a then Nd i ah x else (R.of (put ah i (.val x)) ah).bind λaq _=>.ok .nx aq:=by
 rw[ex];rfl
@[simp] theorem Nf:ex P w (.exp a) fr=(ev P true a fr).bind λ_ ah=>.ok .nx ah:=by rw[ex]
@[simp] theorem Ng:ex P w (.ret a) fr=(ev P false a (fK fr)).bind λx ah=>.ok (.ret x) ah:=by rw[ex]
@[simp] theorem Nh:ex P w (.iff a sa sb) fr=(aN P a fr).bind λk ah=>if k then exs P w sa ah else exs P w sb ah:=by rw[ex]
@[simp] theorem Ni:ex P w .cnt fr=.ok .ct fr:=by rw[ex]
noncomputable def turnF(P:aP)(w:Nat)(t:T)(b:Ss):V->Fr->R Fl:=λd aq=>match cJ t d aq with
 |some cL=>exs P w b cL
 |none=>.bad
@[simp] theorem vF{t:T}:ex P w (.for t it ss) fr=(cT P false it (uR (itv it) fr)).bind λs ah=>forL (turnF P w t ss) s ah:=by rw[ex];rfl
@[simp] theorem Nj:ex P w (.oU a ss) fr=eW (λaq=>aN P a aq) (λaq=>exs P w ss aq) w fr:=by rw[ex]
@[simp] theorem Jl:exs P w .nil fr=.ok .nx fr:=by rw[exs]
noncomputable def Rg(P:aP)(w:Nat)(ss:Ss):Fl->Fr->R Fl:=λp h1=>match p with
 |.nx=>exs P w ss h1
 |p=>.ok p h1
@[simp] theorem EA:exs P w (.cons st ss) fr=(ex P w st fr).bind (Rg P w ss):=by rw[exs];rfl
end
def kC{P:aP}{f:Nat}{vs:List V}{fr:Fr}{v:V}(h:P f (vs.map .val)=some (v,[])):fW P f (vs.map .inr) fr=.ok v fr:=by
 have h1:∀vs:List V,bZ (vs.map .inr)=[]:=λvs=>by induction vs<;>simp[bZ, *]
 have h2:∀vs:List V,args fr (vs.map .inr)=some (vs.map .val):=λvs=>by induction vs<;>simp[args, *]
 simp[fW,h1,h2,h,back]
section
variable{P:aP}{f:Nat}{fr:Fr}{a b c d v:V}
def b8(h:P f [.val a]=some (v,[])):fW P f [.inr a] fr=.ok v fr:=kC (vs:=[a]) h
def call2(h:P f [.val a,.val b]=some (v,[])):fW P f [.inr a,.inr b] fr=.ok v fr:=kC (vs:=[a,b]) h
def fY(h:P f [.val a,.val b,.val c]=some (v,[])):fW P f [.inr a,.inr b,.inr c] fr=.ok v fr:=kC (vs:=[a,b,c]) h
def Rh(h:P f [.val a,.val b,.val c,.val d]=some (v,[])):fW P f [.inr a,.inr b,.inr c,.inr d] fr=.ok v fr:=kC (vs:=[a,b,c,d]) h
end
section
variable{fr:Fr}{i:Nat}{k:Bool}{s:Sl}{v:V}{l:List V}
noncomputable def Zc(k:Bool):Option (Option Sl)->Option V
 |some (some (.val v))=>some v
 |some (some (.own l))=>if k then some (.lst l)else none
 |some (some (.bor l))=>if k then some (.lst l)else none
 |some (some (.ro l))=>if k then some (.lst l)else none
 |_=>none
@[simp] theorem Ri{r:R V}:src k fr (.v i) r=R.of (Am k fr i) fr:=nd rfl
noncomputable def Nk:Option (Option Sl)->Option Sl
 |some (some s)=>s.lend
 |_=>none
@[simp] theorem Jm:lent fr i=Nk fr[i]?:=by unfold lent Nk;split<;>simp_all
@[simp] theorem Xj:Nk (some (some (.own l)))=some (.bor l):=nd rfl
noncomputable def Nl(fr:Fr)(i:Nat)(s:Sl):Option (Option Sl)->Option Fr
 |some (some (.bor _))=>none
 |some (some (.ro _))=>none
 |_=>some (fr.set i (some s))
@[simp] theorem Nn:put fr i s=Nl fr i s fr[i]?:=by unfold put Nl;split<;>simp_all
@[simp] theorem Av{l:List Nat}{x:List V}:cJ (.many l) (.tup x) fr=cW l x fr:=nd rfl
@[simp] theorem Aw:cW [] [] fr=some fr:=nd rfl
@[simp] theorem xU{l:List Nat}{x:List V}:cW (i :: l) (v :: x) fr=(put fr i (.val v)).bind (cW l x):=nd rfl
noncomputable def gW(m:ME)(i:Nat)(ds:List V)(fr:Fr):Option (Option Sl)->R V
 |some (some (.own l))=>match kq m l ds with
  |some (v,l')=>.ok v (fr.set i (some (.own l')))
  |none=>.bad
 |some (some (.bor l))=>match kq m l ds with
  |some (v,l')=>.ok v (fr.set i (some (.bor l')))
  |none=>.bad
 |_=>.bad
@[simp] theorem Jo{m:ME}{ds:List V}:Ex m i ds fr=gW m i ds fr fr[i]?:=by unfold Ex gW;split<;>simp_all<;>rfl
def lR{d:V}(h:l.length<100000):gW .append i [d] fr (some (some (.own l)))=.ok .bz (fr.set i (some (.own (l++[d])))):=by
 simp[gW,kq,P6 h (show 100000<=big by decide)]
def Jp{d:V}(h:l.length<100000):gW .append i [d] fr (some (some (.bor l)))=.ok .bz (fr.set i (some (.bor (l++[d])))):=by
 simp[gW,kq,P6 h (show 100000<=big by decide)]
def jN{d:List V}(h:l.length+d.length<=100000):gW .extend i [.lst d] fr (some (some (.own l)))=.ok .bz (fr.set i (some (.own (l++d)))):=by
 simp[gW,kq,aZ h]
def oG:gW .pop i [] fr (some (some (.own (l++[v]))))=.ok v (fr.set i (some (.own l))):=by
 simp[gW,kq]
def Jq:gW .pop i [] fr (some (some (.bor (l++[v]))))=.ok v (fr.set i (some (.bor l))):=by
 simp[gW,kq]
end
noncomputable def vo(o:Option Sl):Prop:=o=none\/∃y,o=some (.val y)
theorem vo.none:vo none:=.inl rfl
theorem vo.val{v:V}:vo (some (.val v)):=.inr ⟨v,rfl⟩
def Np{fr:Fr}{i:Nat}{s:Sl}{b:Option Sl}(h:vo b):Nl fr i s (some b)=some (fr.set i (some s)):=by rcases h with rfl|⟨y,rfl⟩<;>rfl
def cy{b:Option Sl}(h:vo b):b.map Sl.dN=b:=by rcases h with rfl|⟨y,rfl⟩<;>rfl
section
variable{a:E}
@[simp] theorem Yl:kf a []=true:=by cases a<;>simp[kf]
@[simp] theorem Wy:fV .nil=[]:=by rw[fV]
end
def wC{α:Type}{l:List α}{i:Int}(h0:0<=i):bL l i=l[i.toNat]?:=by
 unfold bL dO;rw[JP h0];split
 .rfl
 .rw[aah (by omega)];rfl
@[simp] theorem yt{α:Type}{l:List α}{n:Nat}:bL l (n:Int)=l[n]?:=by rw[wC (by omega)];simp
def Cu{α:Type}{l:List α}:bL l (-1:Int)=l.getLast?:=by
 unfold bL dO;cases l with
 |nil=>rfl
 |cons a l=>
  have h1:¬ (0:Int)<=-1:=by omega
  have h2:-(((a :: l).length:Nat):Int)<=-1:=by simp;omega
  rw[Yu h1,JP h2,List.getLast?_eq_getElem?];simp only[Option.bind]
  congr 1
  simp;omega
noncomputable def uU:Fn:=⟨2,2,(.cons (.iff (.cmp .eq (.v 0) (.lst .nil)) (.cons (.ret (.bin .mul (.c (.int 7)) (.v 1))) .nil) .nil) (.cons (.ret (.bin .add (.ix (.v 0) (.bin .mod (.v 1) (.bi .len (.cons (.v 0) .nil)))) (.bin .mul (.c (.int 6553)) (.bin .fdiv (.v 1) (.bi .len (.cons (.v 0) .nil)))))) .nil))⟩
noncomputable def wD(c:Nat):Fn:=⟨3,4,(.cons (.set 3 (.bin .mod (.bin .add (.bin .mul (.bin .mod (.cl c (.cons (.v 0) (.cons (.v 1) .nil))) (.c (.int 2147483563))) (.c (.int 69069))) (.bin .mul (.c (.int 104723)) (.bin .add (.v 1) (.c (.int 1))))) (.c (.int 2147483563)))) (.cons (.set 3 (.bin .mod (.bin .add (.bin .mul (.v 3) (.v 3)) (.bin .fdiv (.v 3) (.c (.int 3)))) (.c (.int 2147483399)))) (.cons (.ret (.bin .mod (.bin .fdiv (.bin .mod (.bin .add (.bin .mul (.v 3) (.v 3)) (.bin .fdiv (.v 3) (.c (.int 7)))) (.c (.int 2147483647))) (.c (.int 11))) (.v 2))) .nil)))⟩
noncomputable def uV(ns:List Int)(k:Int):Int:=if ns=[]then 7*k else (ns[(k % ns.length).toNat]?.getD 0)+6553*(k / ns.length)
noncomputable def cU(ns:List Int)(k many:Int):Int:=
 let c:=(uV ns k % 2147483563*69069+104723*(k+1)) % 2147483563
 let c:=(c*c+c / 3) % 2147483399
 (c*c+c / 7) % 2147483647 / 11 % many
def j5(ns:List Int)(k:Int){many:Int}(h:0<many):0<=cU ns k many:=ab2 _ (by omega)
def j6(ns:List Int)(k:Int){many:Int}(h:0<many):cU ns k many<many:=abB _ h
noncomputable def fu(ns:List Int):V:=.bU (ns.map V.int)
def Jr(ns:List Int):cO (dM (18+1)) (ns.map V.int) []=some (decide (ns=[])):=by cases ns<;>simp
section
variable{P:aP}{w:Nat}{fr ah aq cL:Fr}{k b:Bool}{a e c:E}{es:Es}{ss sa sb:Ss}{st:S}{lo hi:Eo}{it:It}{v x y z:V}{vs:List V}{i:Nat}{l:List V}{Q:Fl->Fr->Prop}
def aC{d:D}(h:ofD d=some v):ev P k (.c d) fr=.ok v fr:=by rw[Wv,h];rfl
def ao(h:nv k fr i=some v):ev P k (.v i) fr=.ok v fr:=by rw[Ww,h];rfl
def cZ(h:cC P false es fr=.ok vs ah)(h2:iV vs=some v):ev P k (.tup es) fr=.ok v ah:=by rw[MT,h,ak,h2];rfl
def jF(h:cC P false es fr=.ok vs ah)(h2:dQ vs=some v):ev P k (.lst es) fr=.ok v ah:=by rw[MU,h,ak,h2];rfl
def aW{o:bJ}(h:ev P (kf a (bM e)) a fr=.ok x ah)(h2:ev P true e ah=.ok y aq)(h3:bV o x y=some v):ev P k (.bin o a e) fr=.ok v aq:=by rw[MV,h,ak,h2,ak,h3];rfl
def aT{o:bx}(h:ev P (kf a (bM e)) a fr=.ok x ah)(h2:ev P true e ah=.ok y aq)(h3:cop o x y=some b):ev P k (.cmp o a e) fr=.ok (.bl b) aq:=by rw[MW,h,ak,h2,ak,h3];rfl
def Wz(h:ev P true a fr=.ok (.bl b) ah):ev P k (.nt a) fr=.ok (.bl (!b)) ah:=by rw[Q7,h];rfl
def qG{j:Int}(h:ev P true a fr=.ok (.int j) ah):ev P k (.neg a) fr=.ok (.int (-j)) ah:=by rw[MX,h];rfl
def qH(h:ev P true a fr=.ok (.bl true) ah)(h2:ev P k e ah=.ok v aq):ev P k (.an a e) fr=.ok v aq:=by rw[Q8,h,ak,MY];exact h2
def kD(h:aN P a fr=.ok b ah)(h2:b=true->ev P k e ah=.ok v aq)(h3:b=false->ev P k c ah=.ok v aq):ev P k (.iU a e c) fr=.ok v aq:=by
 rw[MZ,h,ak];cases b with
 |true=>exact h2 rfl
 |false=>exact h3 rfl
def b9(h:ev P (kf a (bM e)) a fr=.ok x ah)(h2:ev P true e ah=.ok y aq)(h3:gf x y=some v):ev P k (.ix a e) fr=.ok v aq:=by rw[Q9,h,ak,h2,ak,h3];rfl
def gk{p q:Option Int}(h:ev P (kf a (kR lo++kR hi)) a fr=.ok x ah)(h2:gr P lo ah=.ok p aq)(h3:gr P hi aq=.ok q cL)(h4:eV x p q=some v):ev P k (.sl a lo hi) fr=.ok v cL:=by rw[Ra,h,ak,h2,ak,h3,ak,h4];rfl
def Nq(h:ev P true a fr=.ok x ah)(h2:lJ x=some v):ev P k (.rv a) fr=.ok v ah:=by rw[Rb,h,ak,h2];rfl
def bB{f:Nat}{as:List (Nat ⊕ V)}(h:gu P es fr=.ok as ah)(h2:fW P f as ah=.ok v aq):ev P k (.cl f es) fr=.ok v aq:=by rw[Rc,h,ak];exact h2
def dh{g:BI}(h:cC P true es fr=.ok vs ah)(h2:cH g vs=some v):ev P k (.bi g es) fr=.ok v ah:=by rw[Rf,h,ak,h2];rfl
def jG{m:ME}(hm:jg m=true)(hl:(lent fr i).isSome=true)(h:cC P (B9 m) es fr=.ok vs ah)(h2:gW m i vs ah ah[i]?=.ok v aq):ev P k (.me m (.v i) es) fr=.ok v aq:=by
 rw[M4 hm,JP hl,h,ak,Jo];exact h2
def kE{m:ME}(hm:jg m=false)(h:ev P (kf a (fV es)) a fr=.ok x ah)(h2:cC P true es ah=.ok vs aq)(h3:dz m x vs=some v):ev P k (.me m a es) fr=.ok v aq:=by rw[M5 hm,h,ak,h2,ak,h3];rfl
def jh{ts:List TY}(h:ev P true a fr=.ok x ah)(h2:ts.any (dS x)=b):ev P k (.gx a ts) fr=.ok (.bl b) ah:=by rw[M6,h,ak,h2]
def di{t:T}{cond:Eo}(h:cT P true it fr=.ok vs ah)(hu:undef t ah=true)(h2:bR (dX P a t cond ah) vs=some l)(h3:dQ l=some v):ev P k (.comp a t it cond) fr=.ok v ah:=by
 rw[rT,h,ak,JP hu,h2];show R.of (dQ l) ah=_;rw[h3];rfl
def mE(h:cT P true it fr=.ok vs ah)(h2:dQ vs=some v):ev P k (.gp it) fr=.ok v ah:=by rw[M7,h,ak,h2];rfl
def j7{kvs:List (D×D)}(h:ev P true a fr=.ok x ah)(h2:fJ x kvs=some v):ev P k (.gP kvs a) fr=.ok v ah:=by rw[Jb,h,ak,h2];rfl
def uW(h:ev P true a fr=.ok x ah)(h2:toT x=some v):ev P k (.jA a) fr=.ok v ah:=by rw[M8,h,ak,h2];rfl
def aE:cC P k .nil fr=.ok [] fr:=Jc
def au(h:ev P (k&&kf a (fV es)) a fr=.ok v ah)(h2:cC P k es ah=.ok vs aq):cC P k (.cons a es) fr=.ok (v :: vs) aq:=by rw[Ey,h,ak,h2];rfl
def aM:gu P .nil fr=.ok [] fr:=Jd
def aK{as:List (Nat ⊕ V)}(hi:lM fr a=none)(h:ev P false a fr=.ok v ah)(h2:gu P es ah=.ok as aq):gu P (.cons a es) fr=.ok (.inr v :: as) aq:=by rw[wA,hi,Au,h,ak,h2];rfl
def WA{as:List (Nat ⊕ V)}(hi:lM fr a=some i)(h2:gu P es fr=.ok as aq):gu P (.cons a es) fr=.ok (.inl i :: as) aq:=by rw[wA,hi,As,h2];rfl
def fZ:gr P .no fr=.ok none fr:=M9
def cX{j:Int}(h:ev P true a fr=.ok (.int j) ah):gr P (.yes a) fr=.ok (some j) ah:=by rw[Je,h];rfl
def qI(h:aN P a fr=.ok false ah):aN P (.an a e) fr=.ok false ah:=by rw[Cs,h];rfl
def gX{b2:Bool}(h:aN P a fr=.ok true ah)(h2:aN P e ah=.ok b2 aq):aN P (.an a e) fr=.ok b2 aq:=by rw[Cs,h];exact h2
def Cv(h:aN P a fr=.ok true ah):aN P (.orr a e) fr=.ok true ah:=by rw[zm,h];rfl
def fy{b2:Bool}(h:aN P a fr=.ok false ah)(h2:aN P e ah=.ok b2 aq):aN P (.orr a e) fr=.ok b2 aq:=by rw[zm,h];exact h2
def gb(h:aN P a fr=.ok b ah):aN P (.nt a) fr=.ok (!b) ah:=by rw[Nb,h];rfl
noncomputable def plainT:E->Bool
 |.an _ _=>false
 |.orr _ _=>false
 |.nt _=>false
 |_=>true
def az(hp:plainT a=true)(h:ev P true a fr=.ok x ah)(h2:truthy x=b):aN P a fr=.ok b ah:=by
 have:aN P a fr=(ev P true a fr).bind Nc:=by
  cases a<;>first | (cases hp;done) | (rw[aN];rfl;all_goals (intros;contradiction))
 rw[this,h,ak,Jg,h2]
def cE(h:src k fr a (ev P k a fr)=.ok x ah)(h2:gH x=some vs):cT P k (.seq a) fr=.ok vs ah:=by rw[Jh,h,ak,h2];rfl
def cS(h:Am k fr i=some v){r:R V}:src k fr (.v i) r=.ok v fr:=by rw[Ri,h];rfl
def qJ(h:cC P true es fr=.ok vs ah)(h2:eH vs=some l):cT P k (.gI es) fr=.ok l ah:=by rw[Ji,h,ak,h2];rfl
def qK{y:V}(h:ev P (kf a (bM e)) a fr=.ok x ah)(h2:ev P true e ah=.ok y aq)(h3:pR x y=some l):cT P k (.jV a e) fr=.ok l aq:=by rw[Jj,h,ak,h2,ak,h3];rfl
def Cw(h:ev P true a fr=.ok x ah)(h2:Ak x=some vs):cT P k (.rev a) fr=.ok vs.reverse ah:=by rw[Jk,h,ak,h2];rfl
def aR(h:ev P false a fr=.ok v ah)(hn:isNew a=false)(hp:put ah i (.val v)=some aq)(q:Q .nx aq):Wp (ex P w (.set i a) fr) Q:=by
 rw[Ct,h,ak,hn,hp];exact⟨_,_,rfl,q⟩
def gg(h:ev P false a fr=.ok (.lst l) ah)(hn:isNew a=true)(hp:put ah i (.own l)=some aq)(q:Q .nx aq):Wp (ex P w (.set i a) fr) Q:=by
 rw[Ct,h,ak,hn,JP rfl,Ez,hp];exact⟨_,_,rfl,q⟩
def fz(h:ev P true a fr=.ok v ah)(q:Q .nx ah):Wp (ex P w (.exp a) fr) Q:=by rw[Nf,h];exact⟨_,_,rfl,q⟩
def aU(h:ev P false a (fK fr)=.ok v ah)(q:Q (.ret v) ah):Wp (ex P w (.ret a) fr) Q:=by rw[Ng,h];exact⟨_,_,rfl,q⟩
def aD(h:aN P a fr=.ok b ah)(h2:b=true->Wp (exs P w sa ah) Q)(h3:b=false->Wp (exs P w sb ah) Q):Wp (ex P w (.iff a sa sb) fr) Q:=by
 rw[Nh,h,ak];cases b with
 |true=>exact h2 rfl
 |false=>exact h3 rfl
def ay(q:Q .nx fr):Wp (exs P w .nil fr) Q:=by rw[Jl];exact⟨_,_,rfl,q⟩
noncomputable def nx(P:aP)(w:Nat)(ss:Ss)(Q:Fl->Fr->Prop):Fl->Fr->Prop
 |.nx,fr=>Wp (exs P w ss fr) Q
 |g,fr=>Q g fr
def af(q:Wp (ex P w st fr) (nx P w ss Q)):Wp (exs P w (.cons st ss) fr) Q:=by
 rw[EA,wp_bind];refine q.mono λg ah z=>?_;cases g with
 |nx=>exact z
 |bk=>exact⟨_,_,rfl,z⟩
 |ct=>exact⟨_,_,rfl,z⟩
 |ret v=>exact⟨_,_,rfl,z⟩
def ji{t:T}(h:cT P false it (uR (itv it) fr)=.ok vs ah)(q:Wp (forL (turnF P w t ss) vs ah) Q):Wp (ex P w (.for t it ss) fr) Q:=by rw[vF,h,ak];exact q
def GR(q:Wp (eW (λaq=>aN P a aq) (λaq=>exs P w ss aq) w fr) Q):Wp (ex P w (.oU a ss) fr) Q:=by rw[Nj];exact q
def dB{t:T}{d:V}(hb:cJ t d fr=some ah)(q:Wp (exs P w ss ah) Q):Wp (turnF P w t ss d fr) Q:=by unfold turnF;rw[hb];exact q
def dD{t:T}{d:V}(hb:cJ t d (ue fr)=some ah)(h:ev P false a ah=.ok v aq):dX P a t .no fr d=some (some v):=by
 unfold dX;rw[hb];dsimp only;rw[Na];dsimp only;rw[h];rfl
def sA{t:T}{d:V}(hb:cJ t d (ue fr)=some ah)(h:aN P c ah=.ok b aq)(h2:b=true->ev P false a ah=.ok v cL):dX P a t (.yes c) fr d=some (if b then some v else none):=by
 unfold dX;rw[hb];dsimp only;rw[Jf,h];dsimp only;cases b with
 |true=>rw[h2 rfl];rfl
 |false=>rfl
def eL{p q:List Nat}:cop .eq (.str p) (.str q)=some (decide (p=q)):=sj
def gw{p q:List Nat}:cop .ne (.str p) (.str q)=some (!decide (p=q)):=by rw[nF,sj];rfl
def sC{p q:Int}:cop .eq (.int p) (.int q)=some (decide (p=q)):=zf
def qL{p q:Int}:cop .ne (.int p) (.int q)=some (!decide (p=q)):=by rw[nF,zf];rfl
def EB{p q:Int}:cop .lt (.int p) (.int q)=some (decide (p<q)):=rfl
def mF{p q:Int}:cop .le (.int p) (.int q)=some (decide (p<=q)):=rfl
def nG{p q:Int}:cop .gt (.int p) (.int q)=some (decide (q<p)):=rfl
def kF{p q:Int}(h:bT p q=true):bV .mul (.int p) (.int q)=some (.int (p*q)):=by rw[pU,JP h]
def oH{p q:Int}(h:0<q):bV .mod (.int p) (.int q)=some (.int (p % q)):=by rw[IW,JP h]
def uX{p q:Int}(h:0<q)(h2:q<1073741824):bV .fdiv (.int p) (.int q)=some (.int (p / q)):=by rw[Eu,JP ⟨h,h2⟩]
end
def eY{fr:Fr}{i:Nat}{s:Sl}{o:Option Sl}(e:fr[i]?=some o)(h:vo o):put fr i s=some (fr.set i (some s)):=by rw[Nn,e,Np h]
def iP{fr:Fr}{i j:Nat}{u v:V}{a b:Option Sl}(ea:fr[i]?=some a)(ha:vo a)(eb:(fr.set i (some (.val u)))[j]?=some b)(hb:vo b):cJ (.many [i,j]) (.tup [u,v]) fr=some ((fr.set i (some (.val u))).set j (some (.val v))):=by
 simp only[Av,xU,Aw,eY ea ha,Option.bind,eY eb hb]
def bind1{fr:Fr}{i:Nat}{v:V}{a:Option Sl}(ea:fr[i]?=some a)(ha:vo a):cJ (.one i) v fr=some (fr.set i (some (.val v))):=eY ea ha
end Pv
local macro_rules|`(tactic|array_get_dec)=>`(tactic|first
 |exact Pv.aE|exact Pv.aM|exact Pv.fZ
 | (apply Pv.ao;rfl) | (apply Pv.aC;rfl)|apply Pv.aW|apply Pv.aT|apply Pv.cZ|apply Pv.jF|apply Pv.b9|apply Pv.gk|apply Pv.bB|apply Pv.dh
 |apply Pv.Wz|apply Pv.qG|apply Pv.uW|apply Pv.mE|apply Pv.Nq | (apply Pv.jG rfl rfl) | (apply Pv.kE rfl)|apply Pv.j7
 |apply Pv.au | (apply Pv.aK rfl) | (apply Pv.WA rfl)|apply Pv.cX|apply Pv.gb|apply Pv.az rfl
 |exact Pv.uT|exact Pv.oA|exact Pv.fL|exact Pv.Q5|exact Pv.kB|exact Pv.Q3|exact Pv.Q4
 | (with_reducible assumption)|exact Pv.cI|exact Pv.wu|exact Pv.eL|exact Pv.gw|exact Pv.sC|exact Pv.qL|exact Pv.EB|exact Pv.mF|exact Pv.nG
 | (show Pv.truthy _=_;rfl) | (show Pv.gf _ _=some _;rfl) | (show Pv.toT _=some _;rfl) | (show Pv.fJ _ _=some _;rfl) | (show Pv.gH _=some _;rfl)|assumption)
namespace Pv
open Ev (D bJ bx TY BI ME T E Es Eo It S Ss Fn big deep b2i rep bT dO bL aS cut bE cY slots)
def Nr(a b:Int):bT (a % 2147483563) b=true:=by have h1:=ab2 a (b:=2147483563) (by decide);have h2:=abB a (b:=2147483563) (by decide);simp[bT];omega
def WB(a b:Int):bT (a % 2147483399) b=true:=by have h1:=ab2 a (b:=2147483399) (by decide);have h2:=abB a (b:=2147483399) (by decide);simp[bT];omega
def Nt{l:List V}{j:Int}{v:V}(h:bL l j=some v):gf (.bU l) (.int j)=some v:=h
def Nu{l m:List V}:cop .eq (.bU l) (.lst m)=cO (dM (18+1)) l m:=rfl
def EC{F:List Fn}{w n c:Nat}(hc:F[c]?=some uU){ns:List Int}(hn:ns.length<=63)(k:Int):run F w (n+1) c [.val (fu ns),.val (.int k)]=some (.int (uV ns k),[]):=by
 refine bu hc rfl (af (aD (b:=decide (ns=[])) (az rfl (aT (ao rfl) (jF aE kB) (Nu.trans (Jr ns))) rfl) (λh=>?_) λh=>ay ?_))
 .have h0:=aas h;exact af (aU (aW (aC rfl) (ao rfl) (kF rfl)) ⟨by rw[uV,JP h0],rfl⟩)
 .have h0:=aa3 h;have hlen:0<ns.length:=List.length_pos_iff.mpr h0;have Uo:(0:Int)<(ns.map V.int).length:=by rw[aaw];exact Int.natCast_pos.mpr hlen
  have h30:((ns.map V.int).length:Int)<1073741824:=by rw[aaw];omega
  have hm0:=ab2 k (b:=(ns.length:Int)) (by omega);have hlt:(k % (ns.length:Int)).toNat<ns.length:=by have:=abB k (b:=(ns.length:Int)) (by omega);omega
  have hx:bL (ns.map V.int) (k % ((ns.map V.int).length:Int))=some (.int (ns[(k % (ns.length:Int)).toNat]?.getD 0)):=by
   rw[aaw,wC hm0,aat,Uy hlt];rfl
  refine af (aU (aW (b9 (ao rfl) (aW (ao rfl) (dh (au (ao rfl) aE) zj) (oH Uo)) (Nt hx)) (aW (aC rfl) (aW (ao rfl) (dh (au (ao rfl) aE) zj) (uX Uo h30)) (kF rfl)) cI) ⟨?_,rfl⟩);rw[uV,Yu h0,aaw]
def fB{F:List Fn}{w n c dr:Nat}(hc:F[c]?=some uU)(hd:F[dr]?=some (wD c)){ns:List Int}(hn:ns.length<=63)(k:Int){many:Int}(hm:0<many):run F w (n+2) dr [.val (fu ns),.val (.int k),.val (.int many)]=some (.int (cU ns k many),[]):=by
 refine bu hd rfl (af (aR (aW (aW (aW (aW (bB (aK rfl (ao rfl) (aK rfl (ao rfl) aM)) (call2 (EC hc hn k))) (aC rfl) (oH (by decide))) (aC rfl) (kF (Nr _ _))) (aW (aC rfl) (aW (ao rfl) (aC rfl) cI) (kF rfl)) cI) (aC rfl) (oH (by decide))) rfl rfl ?_));refine af (aR (aW (aW (aW (ao rfl) (ao rfl) (kF (Nr _ _))) (aW (ao rfl) (aC rfl) (uX (by decide) (by decide))) cI) (aC rfl) (oH (by decide))) rfl rfl ?_);exact af (aU (aW (aW (aW (aW (aW (ao rfl) (ao rfl) (kF (WB _ _))) (aW (ao rfl) (aC rfl) (uX (by decide) (by decide))) cI) (aC rfl) (oH (by decide))) (aC rfl) (uX (by decide) (by decide))) (ao rfl) (oH hm)) ⟨rfl,rfl⟩)
noncomputable def fText(dr:Nat):Fn:=⟨3,4,(.cons (.ret (.me .join (.c (.str [])) (.cons (.comp (.ix (.c (.str [97,98,99,32])) (.cl dr (.cons (.v 0) (.cons (.bin .add (.bin .add (.v 1) (.c (.int 1))) (.v 3)) (.cons (.c (.int 4)) .nil))))) (.one 3) (.gI (.cons (.cl dr (.cons (.v 0) (.cons (.v 1) (.cons (.bin .add (.v 2) (.c (.int 1))) .nil)))) .nil)) .no) .nil))) .nil)⟩
noncomputable def GS(dr:Nat):S:=.iff (.cmp .eq (.cl dr (.cons (.v 0) (.cons (.bin .add (.v 1) (.bin .mul (.c (.int 4)) (.v 4))) (.cons (.c (.int 4)) .nil)))) (.c (.int 0))) (.cons (.set 5 (.bin .mul (.ix (.c (.str [97,98,122])) (.cl dr (.cons (.v 0) (.cons (.bin .add (.bin .add (.v 1) (.bin .mul (.c (.int 4)) (.v 4))) (.c (.int 1))) (.cons (.c (.int 3)) .nil))))) (.bin .add (.c (.int 1)) (.cl dr (.cons (.v 0) (.cons (.bin .add (.bin .add (.v 1) (.bin .mul (.c (.int 4)) (.v 4))) (.c (.int 2))) (.cons (.c (.int 2)) .nil))))))) (.cons (.set 3 (.bin .add (.v 3) (.tup (.cons (.tup (.cons (.c (.str [112,117,116])) (.cons (.v 5) .nil))) .nil)))) .nil)) .nil
noncomputable def GU(dr:Nat):S:=.iff (.cmp .lt (.v 4) (.bi .len (.cons (.v 2) .nil))) (.cons (.set 6 (.cmp .gt (.cl dr (.cons (.v 0) (.cons (.bin .add (.bin .add (.v 1) (.bin .mul (.c (.int 4)) (.v 4))) (.c (.int 3))) (.cons (.c (.int 3)) .nil)))) (.c (.int 0)))) (.cons (.set 3 (.bin .add (.v 3) (.tup (.cons (.iU (.v 6) (.tup (.cons (.c (.str [107,101,101,112])) (.cons (.c (.int 1)) .nil))) (.tup (.cons (.c (.str [100,114,111,112])) (.cons (.ix (.v 2) (.v 4)) .nil)))) .nil)))) .nil)) .nil
noncomputable def Js(dr:Nat):Fn:=⟨3,7,(.cons (.set 3 (.tup .nil)) (.cons (.for (.one 4) (.gI (.cons (.bin .add (.bi .len (.cons (.v 2) .nil)) (.c (.int 1))) .nil)) (.cons (GS dr) (.cons (GU dr) .nil))) (.cons (.ret (.v 3)) .nil)))⟩
inductive Pt where
 |keep (n:Nat)|put (s:List Nat)|drop (s:List Nat)
deriving DecidableEq
noncomputable def eO:List Nat:=[107,101,101,112]
noncomputable def mG:List Nat:=[112,117,116]
noncomputable def jH:List Nat:=[100,114,111,112]
noncomputable def Pt.v:Pt->V
 |.keep n=>.tup [.str eO,.int n]
 |.put s=>.tup [.str mG,.str s]
 |.drop s=>.tup [.str jH,.str s]
noncomputable def aQ(c:List Pt):V:=.tup (c.map Pt.v)
def Nv(n:Nat)(a b:Pt):dM (n+2) a.v b.v=some (decide (a=b)):=by
 cases a<;>cases b<;>simp[Pt.v,eO,mG,jH]
 all_goals omega
noncomputable def txt(ns:List Int)(at_ most:Int):List Nat:=(List.range (cU ns at_ (most+1)).toNat).map λ(k:Nat)=>[97,98,99,32].getD (cU ns (at_+1+k) 4).toNat 0
def Jt(ns:List Int)(at_:Int){most:Int}(h:0<=most):(txt ns at_ most).length<=most.toNat:=by
 unfold txt;have h1:=j6 ns at_ (many:=most+1) (by omega);have h2:=j5 ns at_ (many:=most+1) (by omega);simp;omega
def getD_at{α:Type}{l:List α}{i:Int}(h0:0<=i)(h1:i<l.length)(d:α):bL l i=some (l.getD i.toNat d):=by
 have:i.toNat<l.length:=by omega
 rw[wC h0];simp[List.getD,Uy this]
def o9{α β:Type}(l:List α)(f:α->β):(l.map λx=>[f x]).flatten=l.map f:=by induction l<;>simp[*]
def Cy(lo:Int)(n:Nat):range lo n=(List.range n).map λ(i:Nat)=>V.int (lo+i):=rfl
section
variable{F:List Fn}{w n c dr t:Nat}(hc:F[c]?=some uU)(hd:F[dr]?=some (wD c)){ns:List Int}(hn:ns.length<=63)
include hc hd hn
theorem ED(ht:F[t]?=some (fText dr))(k most:Int)(hm:0<=most)(hm2:most<=1000):run F w (n+3) t [.val (fu ns),.val (.int k),.val (.int most)]=some (.str (txt ns k most),[]):=by
 have b0:=j5 ns k (many:=most+1) (by omega);have b1:=j6 ns k (many:=most+1) (by omega);have d0:=λfr=>fY (fr:=fr) (fB (w:=w) (n:=n) hc hd hn k (many:=most+1) (by omega));have Rj:bR (dX (run F w (n+2)) (.ix (.c (.str [97,98,99,32])) (.cl dr (.cons (.v 0) (.cons (.bin .add (.bin .add (.v 1) (.c (.int 1))) (.v 3)) (.cons (.c (.int 4)) .nil))))) (.one 3) .no [some (.val (fu ns)),some (.val (.int k)),some (.val (.int most)),none]) (range 0 (cU ns k (most+1)).toNat)=some (((List.range (cU ns k (most+1)).toNat).map λ(j:Nat)=>[[97,98,99,32].getD (cU ns (k+1+j) 4).toNat 0]).map V.str):=by
  rw[Cy,aaD];refine cD _ _ _ λj _=>?_;have d1:=λfr=>fY (fr:=fr) (fB (w:=w) (n:=n) hc hd hn (k+1+j) (many:=4) (by decide));have ix:gf (.str [97,98,99,32]) (.int (cU ns (k+1+j) 4))=some (.str [[97,98,99,32].getD (cU ns (k+1+j) 4).toNat 0]):=by
   rw[su,getD_at (l:=[97,98,99,32]) (j5 ns (k+1+j) (many:=4) (by decide)) (j6 ns (k+1+j) (many:=4) (by decide)) 0];rfl
  rw[show(0:Int)+(j:Int)=j from ac3 _];exact dD rfl (by (repeat (first|array_get_dec|exact d1 _)))
 have hj:=qD (l:=(List.range (cU ns k (most+1)).toNat).map λ(j:Nat)=>[[97,98,99,32].getD (cU ns (k+1+j) 4).toNat 0]) (by rw[o9];simp;omega);rw[o9]at hj;have Ym:dQ (((List.range (cU ns k (most+1)).toNat).map λ(j:Nat)=>[[97,98,99,32].getD (cU ns (k+1+j) 4).toNat 0]).map V.str)=some (.lst _):=bK (aZ (by simp;omega));have rg:=MS b0 (show cU ns k (most+1)<=100000 by omega);refine bu ht rfl (af (aU (kE rfl (aC rfl) (au (di (qJ (by (repeat (first|array_get_dec|exact d0 _))) rg) rfl Rj Ym) aE) hj) ⟨rfl,rfl⟩))
end
noncomputable def jI(ns:List Int)(at_:Int)(s:List Nat)(k:Nat):List Pt:=
 (if cU ns (at_+4*k) 4=0 then [.put (rep (1+cU ns (at_+4*k+2) 2).toNat [[97,98,122].getD (cU ns (at_+4*k+1) 3).toNat 0])]else [])++
 (match s[k]? with
 |some c=>[if 0<cU ns (at_+4*k+3) 3 then .keep 1 else .drop [c]]
 |none=>[])
noncomputable def gc(ns:List Int)(at_:Int)(s:List Nat)(k:Nat):List Pt:=(List.range k).flatMap (jI ns at_ s)
noncomputable def chg(ns:List Int)(at_:Int)(s:List Nat):List Pt:=gc ns at_ s (s.length+1)
def Cz(ns:List Int)(at_:Int)(s:List Nat)(k:Nat):(jI ns at_ s k).length<=2:=by
 unfold jI;split<;>split<;>simp
def jJ(ns:List Int)(at_:Int)(s:List Nat)(k:Nat):gc ns at_ s (k+1)=gc ns at_ s k++jI ns at_ s k:=by simp[gc,abw]
theorem nH(ns:List Int)(at_:Int)(s:List Nat):∀k,(gc ns at_ s k).length<=2*k
 |0=>by simp[gc]
 |k+1=>by
  have h1:=Cz ns at_ s k;have h2:=nH ns at_ s k;rw[jJ,Yt];omega
def Nx(i:Int):bT 4 i=true:=by simp[bT]
def Ax{a b:List Pt}(h:a.length+b.length<=100000):bV .add (aQ a) (aQ b)=some (aQ (a++b)):=by
 simp only[aQ];rw[pT (by simpa using h)];simp
def Ny{j:Int}{n:Nat}(h:n<=100000)(e:j=n):eH [.int j]=some (range 0 n):=by
 subst e;rw[MS (by omega) (by omega)];rfl
def Ju{a:List Pt}{s:List Nat}(h:a.length<100000):bV .add (aQ a) (.tup [.tup [.str [112,117,116],.str s]])=some (aQ (a++[.put s])):=Ax (a:=a) (b:=[.put s]) (by simp;omega)
def EE{a:List Pt}{s:List Nat}(h:a.length<100000):bV .add (aQ a) (.tup [.tup [.str [100,114,111,112],.str s]])=some (aQ (a++[.drop s])):=Ax (a:=a) (b:=[.drop s]) (by simp;omega)
def EF{a:List Pt}(h:a.length<100000):bV .add (aQ a) (.tup [.tup [.str [107,101,101,112],.int 1]])=some (aQ (a++[.keep 1])):=Ax (a:=a) (b:=[.keep 1]) (by simp;omega)
section
variable{F:List Fn}{w n c dr t:Nat}(hc:F[c]?=some uU)(hd:F[dr]?=some (wD c)){ns:List Int}(hn:ns.length<=63)
include hc hd hn
theorem EG(k:Int)(x:V)(fd:List Pt)(j:Nat)(u v:Option Sl)(hu:vo u)(hfd:fd.length<=10000) :
  Wp (ex (run F w (n+2)) w (GS dr) [some (.val (fu ns)),some (.val (.int k)),some (.val x),some (.val (aQ fd)),some (.val (.int j)),u,v]) λg fr=>g=.nx/\∃b,vo b/\fr=[some (.val (fu ns)),some (.val (.int k)),some (.val x),some (.val (aQ (fd++if cU ns (k+4*j) 4=0 then [.put (rep (1+cU ns (k+4*j+2) 2).toNat [[97,98,122].getD (cU ns (k+4*j+1) 3).toNat 0])]else []))),some (.val (.int j)),b,v]:=by
 have d1:=λfr=>fY (fr:=fr) (fB (w:=w) (n:=n) hc hd hn (k+4*j) (many:=4) (by decide));have m4:bV .mul (.int 4) (.int j)=some (.int (4*j)):=by rw[pU,Nx];rfl
 refine aD (by (repeat (first|array_get_dec|exact d1 _))) (λh=>?_) λh=>?_
 .have h0:=aas h;have d2:=λfr=>fY (fr:=fr) (fB (w:=w) (n:=n) hc hd hn (k+4*j+1) (many:=3) (by decide));have d3:=λfr=>fY (fr:=fr) (fB (w:=w) (n:=n) hc hd hn (k+4*j+2) (many:=2) (by decide));have c2:=j5 ns (k+4*j+2) (many:=2) (by decide);have c3:=j6 ns (k+4*j+2) (many:=2) (by decide);have ix:gf (.str [97,98,122]) (.int (cU ns (k+4*j+1) 3))=some (.str [[97,98,122].getD (cU ns (k+4*j+1) 3).toNat 0]):=by
   rw[su,getD_at (l:=[97,98,122]) (j5 ns (k+4*j+1) (many:=3) (by decide)) (j6 ns (k+4*j+1) (many:=3) (by decide)) 0];rfl
  have ml:=Et (j:=1+cU ns (k+4*j+2) 2) (a:=[[97,98,122].getD (cU ns (k+4*j+1) 3).toNat 0]) (by omega) (by omega) (by simp);have ad:=Ju (a:=fd) (s:=rep (1+cU ns (k+4*j+2) 2).toNat [[97,98,122].getD (cU ns (k+4*j+1) 3).toNat 0]) (by omega);refine af (aR (by (repeat (first|array_get_dec|exact d2 _|exact d3 _))) rfl (eY rfl hu) ?_);refine af (aR (by repeat array_get_dec) rfl rfl (ay ?_));rw[JP h0];exact⟨rfl,_,.val,rfl⟩
 .have h0:=aa3 h;rw[Yu h0,aao];exact ay ⟨rfl,u,hu,rfl⟩
theorem EH(k:Int)(x:List Nat)(hx:x.length<=1000)(fd:List Pt)(j:Nat)(u v:Option Sl)(hv:vo v)(hfd:fd.length<=10000) :
  Wp (ex (run F w (n+2)) w (GU dr) [some (.val (fu ns)),some (.val (.int k)),some (.val (.str x)),some (.val (aQ fd)),some (.val (.int j)),u,v]) λg fr=>g=.nx/\∃b,vo b/\fr=[some (.val (fu ns)),some (.val (.int k)),some (.val (.str x)),some (.val (aQ (fd++match x[j]? with
     |some c=>[if 0<cU ns (k+4*j+3) 3 then .keep 1 else .drop [c]]
     |none=>[]))),some (.val (.int j)),u,b]:=by
 have ln:cH .len [.str x]=some (.int (x.length:Nat)):=abh (by omega);refine aD (by repeat array_get_dec) (λh=>?_) λh=>?_
 .have hlt:j<x.length:=by have:=aas h;omega
  have d1:=λfr=>fY (fr:=fr) (fB (w:=w) (n:=n) hc hd hn (k+4*j+3) (many:=3) (by decide));have m4:bV .mul (.int 4) (.int j)=some (.int (4*j)):=by rw[pU,Nx];rfl
  have hg:x[j]?=some x[j]:=Uy hlt;have ix:gf (.str x) (.int j)=some (.str [x[j]]):=by rw[su,yt,hg];rfl
  rw[hg];refine af (aR (by (repeat (first|array_get_dec|exact d1 _))) rfl (eY rfl hv) ?_);by_cases hk:0<cU ns (k+4*j+3) 3
  .have ad:=EF (a:=fd) (by omega);have ht:truthy (.bl (decide (0<cU ns (k+4*j+3) 3)))=true:=aaj hk;refine af (aR (aW (ao rfl) (cZ (au (kD (b:=true) (az rfl (ao rfl) ht) (λ_=>by repeat array_get_dec) λh=>absurd h (by decide)) aE) oA) ad) rfl rfl (ay ?_));refine⟨rfl,some (.val (.bl (decide (0<cU ns (k+4*j+3) 3)))),.val,?_⟩;simp only[JP hk];rfl
  .have ad:=EE (a:=fd) (s:=[x[j]]) (by omega);have ht:truthy (.bl (decide (0<cU ns (k+4*j+3) 3)))=false:=aac hk;refine af (aR (aW (ao rfl) (cZ (au (kD (b:=false) (az rfl (ao rfl) ht) (λh=>absurd h (by decide)) λ_=>by repeat array_get_dec) aE) oA) ad) rfl rfl (ay ?_));refine⟨rfl,some (.val (.bl (decide (0<cU ns (k+4*j+3) 3)))),.val,?_⟩;simp only[Yu hk];rfl
 .have hlt:¬ j<x.length:=by have:=aa3 h;omega
  rw[aah (by omega),aao];exact ay ⟨rfl,v,hv,rfl⟩
theorem Ay(ht:F[t]?=some (Js dr))(k:Int)(x:List Nat)(hx:x.length<=1000):run F w (n+3) t [.val (fu ns),.val (.int k),.val (.str x)]=some (aQ (chg ns k x),[]):=by
 refine bu ht rfl ?_;have ln:cH .len [.str x]=some (.int (x.length:Nat)):=abh (by omega);have rg:eH [.int ((x.length:Nat)+1)]=some (range 0 (x.length+1)):=Ny (by omega) (by omega);refine af (aR (by repeat array_get_dec) rfl rfl ?_);refine af (ji (qJ (au (aW (dh (au (ao rfl) aE) ln) (aC rfl) cI) aE) rg) ?_);refine zl (λj fr=>∃a b c,vo a/\vo b/\vo c/\fr=[some (.val (fu ns)),some (.val (.int k)),some (.val (.str x)),some (.val (aQ (gc ns k x j))),a,b,c]) (λj fr hj ⟨a,b,c',ha,hb,hc',hfr⟩=>?_) (λfr ⟨a,b,c',ha,hb,hc',hfr⟩=>?_) ⟨none,none,none,.none,.none,.none,rfl⟩
 .subst hfr;have hz:=nH ns k x j;rw[show(0:Int)+(j:Int)=j from ac3 _];refine dB (bind1 rfl ha) (af ?_);refine(EG hc hd hn k (.str x) (gc ns k x j) j b c' hb (by omega)).mono λg fr ⟨q1,b2,hb2,q3⟩=>?_;subst q1 q3;refine af ?_;refine(EH hc hd hn k x hx _ j b2 c' hc' (by split<;>simp<;>omega)).mono λg fr ⟨q1,b3,Yn,q3⟩=>?_;subst q1 q3;refine ay ?_;rw[dw];refine⟨some (.val (.int j)),b2,b3,.val,hb2,Yn,?_⟩;rw[jJ,jI,aaz]
 .subst hfr;refine af (aU (v:=aQ (chg ns k x)) (ah:=[some (.val (fu ns)),some (.val (.int k)),some (.val (.str x)),some (.val (aQ (gc ns k x (x.length+1)))),a,b,c']) ?_ ⟨rfl,rfl⟩);have sh:fK [some (.val (fu ns)),some (.val (.int k)),some (.val (.str x)),some (.val (aQ (gc ns k x (x.length+1)))),a,b,c']=[some (.val (fu ns)),some (.val (.int k)),some (.val (.str x)),some (.val (aQ (gc ns k x (x.length+1)))),a,b,c']:=by
   show _ :: _ :: _ :: _ :: a.map Sl.dN :: b.map Sl.dN :: [c'.map Sl.dN]=_;rw[cy ha,cy hb,cy hc'];rfl
  rw[sh];exact ao rfl
end
noncomputable def EI:S:=.iff (.cmp .eq (.ix (.v 0) (.c (.int 0))) (.c (.str [107,101,101,112]))) (.cons (.ret (.ix (.v 0) (.c (.int 1)))) .nil) .nil
noncomputable def EJ:S:=.ret (.bi .len (.cons (.ix (.v 0) (.c (.int 1))) .nil))
noncomputable def gh:Fn:=⟨1,1,(.cons EI (.cons EJ .nil))⟩
noncomputable def Az(cj:Nat):S:=.ret (.bi .sum (.cons (.comp (.cl cj (.cons (.v 1) .nil)) (.one 1) (.seq (.v 0)) (.yes (.cmp .ne (.ix (.v 1) (.c (.int 0))) (.c (.str [112,117,116]))))) .nil))
noncomputable def mH(cj:Nat):Fn:=⟨1,2,(.cons (Az cj) .nil)⟩
noncomputable def CA(cj:Nat):S:=.ret (.bi .sum (.cons (.comp (.cl cj (.cons (.v 1) .nil)) (.one 1) (.seq (.v 0)) (.yes (.cmp .ne (.ix (.v 1) (.c (.int 0))) (.c (.str [100,114,111,112]))))) .nil))
noncomputable def oJ(cj:Nat):Fn:=⟨1,2,(.cons (CA cj) .nil)⟩
noncomputable def EK(cj:Nat):S:=.ret (.bi .sum (.cons (.comp (.cl cj (.cons (.v 1) .nil)) (.one 1) (.seq (.v 0)) (.yes (.cmp .ne (.ix (.v 1) (.c (.int 0))) (.c (.str [107,101,101,112]))))) .nil))
noncomputable def Nz(cj:Nat):Fn:=⟨1,2,(.cons (EK cj) .nil)⟩
noncomputable def EL:S:=.set 1 (.lst .nil)
noncomputable def EM:S:=.set 2 (.c (.int 0))
noncomputable def EN:S:=.set 3 (.c (.str []))
noncomputable def EO:S:=.set 4 (.c (.str []))
noncomputable def ER(fU:Nat):Ss:=(.cons (.iff (.cmp .eq (.v 5) (.c (.str [100,114,111,112]))) (.cons (.set 3 (.bin .add (.v 3) (.v 6))) .nil) (.cons (.iff (.cmp .eq (.v 5) (.c (.str [112,117,116]))) (.cons (.set 4 (.bin .add (.v 4) (.v 6))) .nil) (.cons (.iff (.cmp .gt (.v 6) (.c (.int 0))) (.cons (.iff (.orr (.cmp .ne (.v 3) (.c (.str []))) (.cmp .ne (.v 4) (.c (.str [])))) (.cons (.exp (.me .extend (.v 1) (.cons (.cl fU (.cons (.v 2) (.cons (.v 3) (.cons (.v 4) .nil)))) .nil))) (.cons (.set 2 (.c (.int 0))) (.cons (.set 3 (.c (.str []))) (.cons (.set 4 (.c (.str []))) .nil)))) .nil) (.cons (.set 2 (.bin .add (.v 2) (.v 6))) .nil)) .nil) .nil)) .nil)) .nil)
noncomputable def ES(fU:Nat):S:=.for (.many [5,6]) (.seq (.v 0)) (ER fU)
noncomputable def ET(fU:Nat):S:=.exp (.me .extend (.v 1) (.cons (.cl fU (.cons (.v 2) (.cons (.v 3) (.cons (.v 4) .nil)))) .nil))
noncomputable def EU:S:=.ret (.jA (.v 1))
noncomputable def nI(fU:Nat):Fn:=⟨1,7,(.cons EL (.cons EM (.cons EN (.cons EO (.cons (ES fU) (.cons (ET fU) (.cons EU .nil)))))))⟩
noncomputable def xV:S:=.set 3 (.lst .nil)
noncomputable def xW:S:=.iff (.cmp .gt (.v 0) (.c (.int 0))) (.cons (.exp (.me .append (.v 3) (.cons (.tup (.cons (.c (.str [107,101,101,112])) (.cons (.v 0) .nil))) .nil))) .nil) .nil
noncomputable def pe:S:=.iff (.cmp .ne (.v 1) (.c (.str []))) (.cons (.exp (.me .append (.v 3) (.cons (.tup (.cons (.c (.str [100,114,111,112])) (.cons (.v 1) .nil))) .nil))) .nil) .nil
noncomputable def kU:S:=.iff (.cmp .ne (.v 2) (.c (.str []))) (.cons (.exp (.me .append (.v 3) (.cons (.tup (.cons (.c (.str [112,117,116])) (.cons (.v 2) .nil))) .nil))) .nil) .nil
noncomputable def jj:S:=.ret (.v 3)
noncomputable def iC:Fn:=⟨3,4,(.cons xV (.cons xW (.cons pe (.cons kU (.cons jj .nil)))))⟩
noncomputable def Pt.n:Pt->Nat
 |.keep n=>n
 |.put s=>s.length
 |.drop s=>s.length
noncomputable def tot(c:List Pt):Nat:=(c.map Pt.n).sum
def eU(a b:List Pt):tot (a++b)=tot a+tot b:=by simp[tot]
def cz(p:Pt)(c:List Pt):tot (p :: c)=p.n+tot c:=by simp[tot]
noncomputable def fM:Pt->Bool
 |.put _=>true
 |_=>false
noncomputable def eE:Pt->Bool
 |.drop _=>true
 |_=>false
noncomputable def fP:Pt->Bool
 |.keep _=>true
 |_=>false
noncomputable def aF(c:List Pt):Nat:=tot (c.filter λp=>!fM p)
noncomputable def gM(c:List Pt):Nat:=tot (c.filter λp=>!eE p)
noncomputable def cst(c:List Pt):Nat:=tot (c.filter λp=>!fP p)
section
variable{F:List Fn}{w n aO i:Nat}
def ja(hs:F[i]?=some gh)(p:Pt)(hp:p.n<=100000):run F w (n+1) i [.val p.v]=some (.int p.n,[]):=by
 cases p with
 |keep k=>exact bu hs rfl (af (aD (b:=true) (az rfl (aT (b9 (ao rfl) (aC rfl) rfl) (aC rfl) eL) rfl) (λ_=>af (aU (b9 (ao rfl) (aC rfl) rfl) ⟨rfl,rfl⟩)) nofun))
 |put s=>exact bu hs rfl (af (aD (b:=false) (az rfl (aT (b9 (ao rfl) (aC rfl) rfl) (aC rfl) eL) rfl) nofun (λ_=>ay (af (aU (dh (au (b9 (ao rfl) (aC rfl) rfl) aE) (abh hp)) ⟨rfl,rfl⟩)))))
 |drop s=>exact bu hs rfl (af (aD (b:=false) (az rfl (aT (b9 (ao rfl) (aC rfl) rfl) (aC rfl) eL) rfl) nofun (λ_=>ay (af (aU (dh (au (b9 (ao rfl) (aC rfl) rfl) aE) (abh hp)) ⟨rfl,rfl⟩)))))
def NB{c:List Pt}{p:Pt}(h:p∈c):p.n<=tot c:=by
 induction c with
 |nil=>simp at h
 |cons q c ih=>
  rw[cz];rcases List.mem_cons.mp h with rfl|h
  .omega
  .have:=ih h;omega
def Rk(c:List Pt):(c.map λp=>(p.n:Int)).sum=(tot c:Int):=by
 induction c with
 |nil=>rfl
 |cons p c ih=>simp only[Uz,acV,ih,cz];omega
def sD{word:List Nat}{pr:Pt->Bool}(hs:F[aO]?=some gh)(hb:F[i]?=some ⟨1,2,.cons (.ret (.bi .sum (.cons (.comp (.cl aO (.cons (.v 1) .nil)) (.one 1) (.seq (.v 0)) (.yes (.cmp .ne (.ix (.v 1) (.c (.int 0))) (.c (.str word))))) .nil))) .nil⟩)
  (hw:∀p:Pt,∃x u,p.v=.tup [.str x,u]/\(!decide (x=word))=pr p) (c:List Pt) (h1:c.length<=10000) (h2:tot c<=100000):run F w (n+2) i [.val (aQ c)]=some (.int (tot (c.filter pr)),[]):=by
 refine bu hb rfl (af (aU (dh (au (di (cE (cS rfl) rfl) rfl (j4 (e:=Pt.v) (p:=pr) (g:=λp=>.int p.n) c λp hp=>?_) (bK (aZ ?_))) aE) ?_) ⟨rfl,rfl⟩))
 .obtain⟨x,u,hx,Yo⟩:=hw p;have hcall:=λfr=>b8 (fr:=fr) (ja (w:=w) (n:=n) hs p (aaa (NB hp) h2));rw[hx]at hcall;rw[hx,<-Yo];exact sA rfl (az rfl (aT (b9 (ao rfl) (aC rfl) rfl) (aC rfl) gw) rfl) λ_=>bB (aK rfl (ao rfl) aM) (hcall _)
 .rw[aaw];exact aaa (abU _ _) (aaa h1 (by decide))
 .rw[I0,Aq (λp:Pt=>(p.n:Int))];show some (V.int _)=_;rw[Rk]
def AA(hs:F[aO]?=some gh)(hb:F[i]?=some (mH aO))(c:List Pt)(h1:c.length<=10000)(h2:tot c<=100000):run F w (n+2) i [.val (aQ c)]=some (.int (aF c),[]):=
 sD (pr:=λp=>!fM p) hs hb (λp=>by cases p<;>exact⟨_,_,rfl,rfl⟩) c h1 h2
def CB(hs:F[aO]?=some gh)(hb:F[i]?=some (oJ aO))(c:List Pt)(h1:c.length<=10000)(h2:tot c<=100000):run F w (n+2) i [.val (aQ c)]=some (.int (gM c),[]):=
 sD (pr:=λp=>!eE p) hs hb (λp=>by cases p<;>exact⟨_,_,rfl,rfl⟩) c h1 h2
def EV(hs:F[aO]?=some gh)(hb:F[i]?=some (Nz aO))(c:List Pt)(h1:c.length<=10000)(h2:tot c<=100000):run F w (n+2) i [.val (aQ c)]=some (.int (cst c),[]):=
 sD (pr:=λp=>!fP p) hs hb (λp=>by cases p<;>exact⟨_,_,rfl,rfl⟩) c h1 h2
end
noncomputable def cB(k:Nat)(g w:List Nat):List Pt:=(if 0<k then [.keep k]else [])++(if g=[]then []else [.drop g])++(if w=[]then []else [.put w])
def kW(k:Nat)(g w:List Nat):(cB k g w).length<=3:=by unfold cB;split<;>split<;>split<;>simp
def pq{F:List Fn}{w n i:Nat}(hs:F[i]?=some iC)(k:Nat)(g x:List Nat):run F w (n+1) i [.val (.int k),.val (.str g),.val (.str x)]=some (.lst ((cB k g x).map Pt.v),[]):=by
 refine bu hs rfl ?_;refine af (gg (l:=[]) (by repeat array_get_dec) rfl rfl ?_);have ap:∀(l:List V) (d:V) (fr:Fr) (i:Nat),l.length<=3->fr[i]?=some (some (.own l))->gW .append i [d] fr fr[i]?=.ok .bz (fr.set i (some (.own (l++[d])))):=λl d fr i h e=>by rw[e];exact lR (by omega)
 have fin:∀l:List V,Wp (exs (run F w n) w (.cons jj .nil) [some (.val (.int k)),some (.val (.str g)),some (.val (.str x)),some (.own l)]) λg fr=>g=.ret (.lst l)/\outs 3 fr=[]:=λl=>af (aU (by repeat array_get_dec) ⟨rfl,rfl⟩);have s3:∀l:List V,l.length<=2->Wp (exs (run F w n) w (.cons kU (.cons jj .nil)) [some (.val (.int k)),some (.val (.str g)),some (.val (.str x)),some (.own l)]) λg fr=>g=.ret (.lst (l++(if x=[]then []else [Pt.put x]).map Pt.v))/\outs 3 fr=[]:=λl hl=>by
  refine af (aD (by repeat array_get_dec) (λh=>?_) λh=>?_)
  .have hx:x≠[]:=by simpa using h
   refine af (fz (by (repeat array_get_dec);exact ap _ _ _ _ (by omega) rfl) (ay ?_));rw[Yu hx];exact fin _
  .have hx:x=[]:=by simpa using h
   refine ay ?_;rw[JP hx,abZ,aao];exact fin _
 have s2:∀l:List V,l.length<=1->Wp (exs (run F w n) w (.cons pe (.cons kU (.cons jj .nil))) [some (.val (.int k)),some (.val (.str g)),some (.val (.str x)),some (.own l)]) λy fr=>y=.ret (.lst (l++((if g=[]then []else [Pt.drop g])++(if x=[]then []else [Pt.put x])).map Pt.v))/\outs 3 fr=[]:=λl hl=>by
  refine af (aD (by repeat array_get_dec) (λh=>?_) λh=>?_)
  .have hx:g≠[]:=by simpa using h
   refine af (fz (by (repeat array_get_dec);exact ap _ _ _ _ (by omega) rfl) (ay ?_));rw[Yu hx,aad,<-aaz];exact s3 _ (by simp;omega)
  .have hx:g=[]:=by simpa using h
   refine ay ?_;rw[JP hx,abx];exact s3 _ (by omega)
 refine af (aD (by repeat array_get_dec) (λh=>?_) λh=>?_)
 .have hx:0<k:=by have:=aas h;omega
  refine af (fz (by (repeat array_get_dec);exact ap _ _ _ _ (by decide) rfl) (ay ?_));unfold cB;rw[JP hx,aaz];exact s2 _ (WE 1)
 .have hx:¬ 0<k:=by have:=aa3 h;omega
  refine ay ?_;unfold cB;rw[Yu hx];exact s2 _ (by decide)
abbrev FS:=List Pt×Nat×List Nat×List Nat
noncomputable def bN(st:FS):Pt->FS
 |.drop s=>(st.1,st.2.1,st.2.2.1++s,st.2.2.2)
 |.put s=>(st.1,st.2.1,st.2.2.1,st.2.2.2++s)
 |.keep k=>if 0<k then (if st.2.2.1=[]/\st.2.2.2=[]then (st.1,st.2.1+k,[],[])else (st.1++cB st.2.1 st.2.2.1 st.2.2.2,k,[],[]))else st
noncomputable def fQ:FS:=([],0,[],[])
noncomputable def dF(st:FS):List Pt:=st.1++cB st.2.1 st.2.2.1 st.2.2.2
noncomputable def bg(c:List Pt):List Pt:=dF (c.foldl bN fQ)
def Jv(p:List Pt)(a:Pt):(p++[a]).foldl bN fQ=bN (p.foldl bN fQ) a:=by simp
def wF(c:List Pt):∀st:FS,(c.foldl bN st).1.length<=st.1.length+3*c.length/\(c.foldl bN st).2.2.1.length<=st.2.2.1.length+tot c/\(c.foldl bN st).2.2.2.length<=st.2.2.2.length+tot c:=by
 induction c with
 |nil=>intro st;simp[tot]
 |cons p c ih=>
  intro st;have h:=ih (bN st p);have h2:(bN st p).1.length<=st.1.length+3/\(bN st p).2.2.1.length<=st.2.2.1.length+p.n/\(bN st p).2.2.2.length<=st.2.2.2.length+p.n:=by
   have:=kW st.2.1 st.2.2.1 st.2.2.2;cases p with
   |drop s=>simp[bN,Pt.n]
   |put s=>simp[bN,Pt.n]
   |keep k=>
    simp only[bN];split
    .split
     .simp
     .simp;omega
    .simp
  simp only[aaF,aaf,cz];omega
def mJ{F:List Fn}{w n bP i:Nat}(hs:F[bP]?=some iC)(hf:F[i]?=some (nI bP))(c:List Pt)(h1:c.length<=10000)(h2:tot c<=10000):run F w (n+2) i [.val (aQ c)]=some (aQ (bg c),[]):=by
 refine bu hf rfl ?_;refine af (gg (l:=[]) (by repeat array_get_dec) rfl rfl ?_);refine af (aR (by repeat array_get_dec) rfl rfl ?_);refine af (aR (by repeat array_get_dec) rfl rfl ?_);refine af (aR (by repeat array_get_dec) rfl rfl ?_);refine af (ji (vs:=c.map Pt.v) (cE (cS rfl) rfl) ?_);have ext:∀(st:FS) (fr:Fr),st.1.length<=30010->gW .extend 1 [.lst ((cB st.2.1 st.2.2.1 st.2.2.2).map Pt.v)] fr (some (some (.own (st.1.map Pt.v))))=.ok .bz (fr.set 1 (some (.own ((dF st).map Pt.v)))):=λst fr h=>by
  have:=kW st.2.1 st.2.2.1 st.2.2.2;unfold dF;rw[aad];exact jN (by simp;omega)
 refine fO (e:=Pt.v) (λp l fr=>p++l=c/\∃a b,vo a/\vo b/\fr=[some (.val (aQ c)),some (.own ((p.foldl bN fQ).1.map Pt.v)),some (.val (.int (p.foldl bN fQ).2.1)),some (.val (.str (p.foldl bN fQ).2.2.1)),some (.val (.str (p.foldl bN fQ).2.2.2)),a,b]) (λp x l fr ⟨hpl,a,b,ha,hb,hfr⟩=>?_) (λp fr ⟨hpl,a,b,ha,hb,hfr⟩=>?_) c [] _ ⟨rfl,none,none,.none,.none,rfl⟩
 .subst hfr;obtain⟨b1,b2,b3⟩:=wF p fQ;have hlen:p.length+l.length+1=c.length:=by rw[<-hpl];simp;omega
  have wG:tot p+x.n+tot l=tot c:=by rw[<-hpl,eU,cz];omega
  rw[Jv];have fh:(p++[x])++l=c:=by simpa using hpl
  generalize p.foldl bN fQ=st at *
  simp[fQ]at b1 b2 b3;have rs:=λfr=>fY (fr:=fr) (pq (w:=w) (n:=n) hs st.2.1 st.2.2.1 st.2.2.2);have ex:=λfr=>ext st fr (by omega);cases x with
  |drop s=>
   have hs:s.length<=tot c:=by simp only[Pt.n]at wG;omega
   have ad:=dU (a:=st.2.2.1) (b:=s) (by omega);refine dB (iP rfl ha rfl hb) (af (aD (by repeat array_get_dec) (λ_=>?_) λh=>absurd h (by decide)));refine af (aR (by repeat array_get_dec) rfl rfl (ay (ay ?_)));rw[dw];exact⟨fh,_,_,.val,.val,rfl⟩
  |put s=>
   have hs:s.length<=tot c:=by simp only[Pt.n]at wG;omega
   have ad:=dU (a:=st.2.2.2) (b:=s) (by omega);refine dB (iP rfl ha rfl hb) (af (aD (by repeat array_get_dec) (λh=>absurd h (by decide)) λ_=>?_));refine af (aD (by repeat array_get_dec) (λ_=>?_) λh=>absurd h (by decide));refine af (aR (by repeat array_get_dec) rfl rfl (ay (ay (ay ?_))));rw[dw];exact⟨fh,_,_,.val,.val,rfl⟩
  |keep k=>
   refine dB (iP rfl ha rfl hb) (af (aD (by repeat array_get_dec) (λh=>absurd h (by decide)) λ_=>?_));refine af (aD (by repeat array_get_dec) (λh=>absurd h (by decide)) λ_=>?_);refine af (aD (by repeat array_get_dec) (λh=>?_) λh=>?_)
   .have hk:0<k:=by have:=aas h;omega
    by_cases hg:st.2.2.1=[]/\st.2.2.2=[]
    .have n1:cop .ne (.str st.2.2.1) (.str [])=some false:=by rw[gw,hg.1];rfl
     have n2:cop .ne (.str st.2.2.2) (.str [])=some false:=by rw[gw,hg.2];rfl
     refine af (aD (b:=false) (fy (az rfl (by repeat array_get_dec) rfl) (az rfl (by repeat array_get_dec) rfl)) (λh=>absurd h (by decide)) λ_=>ay ?_);refine af (aR (by repeat array_get_dec) rfl rfl (ay (ay (ay (ay ?_)))));rw[dw];refine⟨fh,some (.val (.str eO)),some (.val (.int k)),.val,.val,?_⟩;simp only[bN,JP hk,JP hg];rw[hg.1,hg.2];rfl
    .have tt:aN (run F w (n+1)) (.orr (.cmp .ne (.v 3) (.c (.str []))) (.cmp .ne (.v 4) (.c (.str [])))) [some (.val (aQ c)),some (.own (st.1.map Pt.v)),some (.val (.int st.2.1)),some (.val (.str st.2.2.1)),some (.val (.str st.2.2.2)),some (.val (.str eO)),some (.val (.int k))]=.ok true [some (.val (aQ c)),some (.own (st.1.map Pt.v)),some (.val (.int st.2.1)),some (.val (.str st.2.2.1)),some (.val (.str st.2.2.2)),some (.val (.str eO)),some (.val (.int k))]:=by
      by_cases h3:st.2.2.1=[]
      .have h4:¬ st.2.2.2=[]:=λz=>hg ⟨h3,z⟩;have n1:cop .ne (.str st.2.2.1) (.str [])=some false:=by rw[gw,h3];rfl
       have n2:cop .ne (.str st.2.2.2) (.str [])=some true:=by rw[gw,aac h4];rfl
       exact fy (az rfl (by repeat array_get_dec) rfl) (az rfl (by repeat array_get_dec) rfl)
      .have n1:cop .ne (.str st.2.2.1) (.str [])=some true:=by rw[gw,aac h3];rfl
       exact Cv (az rfl (by repeat array_get_dec) rfl)
     refine af (aD tt (λ_=>?_) λh=>absurd h (by decide));refine af (fz (by (repeat (first|array_get_dec|exact rs _|exact ex _))) ?_);refine af (aR (by repeat array_get_dec) rfl rfl ?_);refine af (aR (by repeat array_get_dec) rfl rfl ?_);refine af (aR (by repeat array_get_dec) rfl rfl (ay ?_));refine af (aR (by repeat array_get_dec) rfl rfl (ay (ay (ay (ay ?_)))));rw[dw];refine⟨fh,some (.val (.str eO)),some (.val (.int k)),.val,.val,?_⟩;simp only[bN,JP hk,Yu hg];rw[ac3];rfl
   .have hk:¬ 0<k:=by have:=aa3 h;omega
    refine ay (ay (ay (ay ?_)));rw[dw];refine⟨fh,some (.val (.str eO)),some (.val (.int k)),.val,.val,?_⟩;simp only[bN,Yu hk];rfl
 .subst hfr;simp at hpl;subst hpl;obtain⟨b1,b2,b3⟩:=wF p fQ;have e:bg p=dF (p.foldl bN fQ):=rfl;rw[e];generalize p.foldl bN fQ=st at *
  simp[fQ]at b1 b2 b3;have sl:=kW st.2.1 st.2.2.1 st.2.2.2;have rs:=λfr=>fY (fr:=fr) (pq (w:=w) (n:=n) hs st.2.1 st.2.2.1 st.2.2.2);have ex:=λfr=>ext st fr (by omega);have mk:toT (.lst ((dF st).map Pt.v))=some (aQ (dF st)):=by rw[zk];exact lQ (aZ (by simp[dF];omega))
  refine af (fz (by (repeat (first|array_get_dec|exact rs _|exact ex _))) ?_);exact af (aU (uW (ao rfl) mk) ⟨rfl,rfl⟩)
inductive Tq where
 |at (i:Nat)|sg (c:Nat)
deriving DecidableEq
noncomputable def Pt.asks:Pt->List (List Nat)
 |.keep n=>List.replicate n []
 |.drop s=>s.map λc=>[c]
 |.put _=>[]
noncomputable def asks(c:List Pt):List (List Nat):=c.flatMap Pt.asks
noncomputable def Pt.told(k:Nat):Pt->List Tq
 |.keep n=>(List.range n).map λj=>.at (k+j)
 |.drop _=>[]
 |.put s=>s.map .sg
noncomputable def told(k:Nat):List Pt->List Tq
 |[]=>[]
 |p :: c=>p.told k++told (k+p.asks.length) c
def eZ(a b:List Pt):asks (a++b)=asks a++asks b:=by simp[asks]
def fE(a b:List Pt):∀k,told k (a++b)=told k a++told (k+(asks a).length) b:=by
 induction a with
 |nil=>intro k;simp[told,asks]
 |cons p a ih=>
  intro k;simp only[aax,told,ih,aaz]
  congr 3
  simp[asks];omega
def EW(k:Nat)(p:Pt):(p.told k).length<=p.n:=by cases p<;>simp[Pt.told,Pt.n]
def Jw(c:List Pt):∀k,(told k c).length<=tot c:=by
 induction c with
 |nil=>intro k;simp[told]
 |cons p c ih=>intro k;have:=EW k p;have:=ih (k+p.asks.length);simp only[told,Yt,cz];omega
noncomputable def kG(c:List Pt):List (List Nat)×List Tq:=(asks c,told 0 c)
noncomputable def Pt.word:Pt->List Nat
 |.keep _=>eO
 |.put _=>mG
 |.drop _=>jH
noncomputable def qM(a b:List Nat):Bool:=!(decide (a=b) || (decide (a=mG)&&decide (b=jH)))
noncomputable def kX:List (List Nat)->Bool
 |a :: b :: r=>qM a b&&kX (b :: r)
 |_=>true
noncomputable def CC(p:Pt):Bool:=p.n != 0
noncomputable def nJ(c:List Pt):Bool:=kX (c.map Pt.word)&&c.all CC
def fR(k:Nat)(g x:List Nat):asks (cB k g x)=List.replicate k []++g.map λc=>[c]:=by
  unfold cB;by_cases hk:0<k<;>by_cases hg:g=[]<;>by_cases hx:x=[]<;>simp[hk,hg,hx,asks,Pt.asks]
  all_goals (have:k=0:=by omega
             subst this;simp)
def iQ(k:Nat)(g x:List Nat)(j:Nat):told j (cB k g x)=(List.range k).map (λi=>Tq.at (j+i))++x.map Tq.sg:=by
  unfold cB;by_cases hk:0<k<;>by_cases hg:g=[]<;>by_cases hx:x=[]<;>simp[hk,hg,hx,told,Pt.told,Pt.asks]
  all_goals (have:k=0:=by omega
             subst this;simp)
def AB(st:FS)(p:Pt):asks (dF (bN st p))=asks (dF st++[p])/\∀j,told j (dF (bN st p))=told j (dF st++[p]):=by
 obtain⟨ps,k,g,x⟩:=st;have e1:∀a:List Pt,asks (a++[p])=asks a++p.asks:=λa=>by simp[asks]
 have e2:∀(a:List Pt) j,told j (a++[p])=told j a++p.told (j+(asks a).length):=λa j=>by simp[fE,told]
 rw[e1];cases p with
 |drop s=>
  refine⟨by simp[bN,dF,eZ,fR,Pt.asks],λj=>?_⟩;rw[e2];simp[bN,dF,fE,iQ,Pt.told]
 |put s=>
  refine⟨by simp[bN,dF,eZ,fR,Pt.asks],λj=>?_⟩;rw[e2];simp[bN,dF,fE,iQ,Pt.told]
 |keep m=>
  simp only[bN];split
  .split
   .rename_i h;obtain⟨rfl,rfl⟩:=h;refine⟨by simp[dF,eZ,fR,Pt.asks],λj=>?_⟩;rw[e2];simp[dF,eZ,fE,iQ,fR,Pt.told,List.range_add,abP]
   .refine⟨by simp[dF,eZ,fR,Pt.asks],λj=>?_⟩;rw[e2];simp[dF,eZ,fE,iQ,fR,Pt.told,abP]
  .rename_i h;have:m=0:=by omega
   subst this;refine⟨by simp[Pt.asks],λj=>?_⟩;rw[e2];simp[Pt.told]
def qN(c:List Pt):∀st:FS,asks (dF (c.foldl bN st))=asks (dF st++c)/\∀j,told j (dF (c.foldl bN st))=told j (dF st++c):=by
 induction c with
 |nil=>intro st;simp
 |cons p c ih=>
  intro st;obtain⟨h1,h2⟩:=ih (bN st p);obtain⟨h3,h4⟩:=AB st p;simp only[aaF];have e:dF st++p :: c=(dF st++[p])++c:=by simp
  refine⟨?_,λj=>?_⟩
  .rw[h1,e,eZ,eZ _ c,h3]
  .rw[h2 j,e,fE,fE _ c,h4 j,h3]
def gA(c:List Pt):asks (bg c)=asks c:=by
 have:=(qN c fQ).1;simpa[bg,fQ,dF,cB]using this
def eT(c:List Pt)(j:Nat):told j (bg c)=told j c:=by
 have:=(qN c fQ).2 j;simpa[bg,fQ,dF,cB]using this
def mK(c:List Pt):kG (bg c)=kG c:=by simp[kG,gA,eT]
noncomputable def kps(c:List Pt):Nat:=tot (c.filter fP)
def mL(c:List Pt):(asks c).length=aF c:=by
 induction c with
 |nil=>rfl
 |cons p c ih=>cases p<;>simp[asks,aF,tot,fM,Pt.asks,Pt.n]at ih ⊢<;>omega
def mP(c:List Pt):∀j,(told j c).length=gM c:=by
 induction c with
 |nil=>intro j;rfl
 |cons p c ih=>intro j;cases p<;>simp[told,gM,tot,eE,Pt.told,Pt.n,ih]at ih ⊢
def kH(n:Nat)(c:List Pt):aF (.keep n :: c)=n+aF c:=by simp[aF,tot,fM,Pt.n]
def mQ(s:List Nat)(c:List Pt):aF (.drop s :: c)=s.length+aF c:=by simp[aF,tot,fM,Pt.n]
def kI(s:List Nat)(c:List Pt):aF (.put s :: c)=aF c:=by simp[aF,tot,fM,Pt.n]
def AD(n:Nat)(c:List Pt):gM (.keep n :: c)=n+gM c:=by simp[gM,tot,eE,Pt.n]
def AE(s:List Nat)(c:List Pt):gM (.drop s :: c)=gM c:=by simp[gM,tot,eE,Pt.n]
def AF(s:List Nat)(c:List Pt):gM (.put s :: c)=s.length+gM c:=by simp[gM,tot,eE,Pt.n]
def GV(n:Nat)(c:List Pt):cst (.keep n :: c)=cst c:=by simp[cst,tot,fP,Pt.n]
def GW(s:List Nat)(c:List Pt):cst (.drop s :: c)=s.length+cst c:=by simp[cst,tot,fP,Pt.n]
def GX(s:List Nat)(c:List Pt):cst (.put s :: c)=s.length+cst c:=by simp[cst,tot,fP,Pt.n]
def GY(n:Nat)(c:List Pt):kps (.keep n :: c)=n+kps c:=by simp[kps,tot,abt,fP,Pt.n]
def GZ(s:List Nat)(c:List Pt):kps (.drop s :: c)=kps c:=by simp[kps,tot,fP,Pt.n]
def G0(s:List Nat)(c:List Pt):kps (.put s :: c)=kps c:=by simp[kps,tot,fP,Pt.n]
noncomputable def isAt:Tq->Bool
 |.at _=>true
 |_=>false
def CD(c:List Pt):∀j,((told j c).filter isAt).length=kps c:=by
 induction c with
 |nil=>intro j;rfl
 |cons p c ih=>
  intro j;have e1:∀(m:Nat) (f:Nat->Nat),(((List.range m).map λi=>Tq.at (f i)).filter isAt).length=m:=λm f=>by
   rw[List.filter_eq_self.mpr]
   .simp
   .intro a ha;obtain⟨i,_,rfl⟩:=List.mem_map.mp ha;rfl
  have e2:∀s:List Nat,((s.map Tq.sg).filter isAt).length=0:=λs=>by
   rw[List.filter_eq_nil_iff.mpr]
   .rfl
   .intro a ha;obtain⟨i,_,rfl⟩:=List.mem_map.mp ha;simp[isAt]
  cases p with
  |keep m=>simp only[told,Pt.told,ace,Yt,e1,ih,kps,tot,fP,abt,aal,Uz,acV,Pt.n]
  |put s=>simp only[told,Pt.told,ace,Yt,e2,ih,kps,fP,abt];simp
  |drop s=>simp only[told,Pt.told,ace,Yt,ih,kps,fP,abt];simp
def CF(c:List Pt):(cst c:Int)=aF c - kps c+gM c - kps c:=by
 induction c with
 |nil=>rfl
 |cons p c ih=>cases p<;>simp only[GV,GW,GX,kH,mQ,kI,AD,AE,AF,GY,GZ,G0]<;>omega
def CG(c:List Pt):tot c+kps c=aF c+gM c:=by
 induction c with
 |nil=>rfl
 |cons p c ih=>cases p<;>simp only[cz,Pt.n,kH,mQ,kI,AD,AE,AF,GY,GZ,G0]<;>omega
def wH(c:List Pt):aF (bg c)=aF c:=by rw[<-mL,<-mL,gA]
def wI(c:List Pt):gM (bg c)=gM c:=by rw[<-mP _ 0,<-mP _ 0,eT]
def wJ(c:List Pt):kps (bg c)=kps c:=by rw[<-CD _ 0,<-CD _ 0,eT]
def pX(c:List Pt):cst (bg c)=cst c:=by
 have h1:=CF (bg c);have h2:=CF c;rw[wH,wI,wJ]at h1;omega
def ir(c:List Pt):tot (bg c)=tot c:=by
 have h1:=CG (bg c);have h2:=CG c;rw[wH,wI,wJ]at h1;omega
theorem zo:∀(a:List (List Nat)) (b:List (List Nat)),kX (a++b)=true↔kX a=true/\kX b=true/\∀x∈a.getLast?,∀y∈b.head?,qM x y=true
 |[],b=>by simp[kX]
 |[x],[]=>by simp[kX]
 |[x],y :: b=>by simp[kX,and_comm]
 |x :: y :: a,b=>by
  have:=zo (y :: a) b;simp only[aax]at this ⊢;simp only[kX,xg,this,List.getLast?_cons_cons];constructor
  .rintro⟨h1,h2,h3,h4⟩;exact⟨⟨h1,h2⟩,h3,h4⟩
  .rintro⟨⟨h1,h2⟩,h3,h4⟩;exact⟨h1,h2,h3,h4⟩
def xX(k:Nat)(g x:List Nat):nJ (cB k g x)=true:=by
 unfold cB;by_cases hk:0<k<;>by_cases hg:g=[]<;>by_cases hx:x=[]<;>simp[hk,hg,hx,nJ,CC,kX,qM,Pt.word,Pt.n,eO,mG,jH]
 all_goals omega
noncomputable def wK(st:FS):Prop:=nJ st.1=true/\(st.1≠[]->0<st.2.1)/\∀p∈st.1.getLast?,p.word≠eO
def Jx{a b:List Pt}(ha:nJ a=true)(hb:nJ b=true)(h:∀p∈a.getLast?,∀q∈b.head?,qM p.word q.word=true):nJ (a++b)=true:=by
 simp only[nJ,xg]at ha hb ⊢;refine⟨?_,by rw[List.all_append,ha.2,hb.2];rfl⟩;rw[aad,zo];refine⟨ha.1,hb.1,λx hx y hy=>?_⟩;simp at hx hy;obtain⟨p,hp,rfl⟩:=hx;obtain⟨q,hq,rfl⟩:=hy;exact h p hp q hq
def wL{k:Nat}{g x:List Nat}(hk:0<k):(cB k g x).head?=some (.keep k):=by simp[cB,hk]
def Jy{w:List Nat}(h:w≠eO)(hw:w=mG\/w=jH):qM w eO=true:=by
 rcases hw with rfl|rfl<;>decide
def Jz(p:Pt):p.word=eO\/p.word=mG\/p.word=jH:=by cases p<;>simp[Pt.word]
def wN{st:FS}(h:wK st):nJ (dF st)=true:=by
 refine Jx h.1 (xX _ _ _) λp hp q hq=>?_;have hne:st.1≠[]:=by intro z;rw[z]at hp;simp at hp
 rw[wL (h.2.1 hne)]at hq;simp at hq;subst hq;have hw:=h.2.2 p hp;exact Jy hw ((Jz p).resolve_left hw)
def wO{k:Nat}{g x:List Nat}(h:¬ (g=[]/\x=[])):∀p∈(cB k g x).getLast?,p.word≠eO:=by
 unfold cB;by_cases hx:x=[]
 .have hg:g≠[]:=λz=>h ⟨z,hx⟩;intro p hp;simp[hg,hx]at hp;subst hp;simp[Pt.word,jH,eO]
 .intro p hp;simp[hx]at hp;subst hp;simp[Pt.word,mG,eO]
def CH{st:FS}(h:wK st)(p:Pt):wK (bN st p):=by
 cases p with
 |drop s=>exact h
 |put s=>exact h
 |keep k=>
  simp only[bN];split
  .rename_i hk;split
   .exact⟨h.1,λz=>by simp;omega,h.2.2⟩
   .rename_i Up;refine⟨wN h,λ_=>hk,λp hp=>?_⟩;rw[acT]at hp;cases z:(cB st.2.1 st.2.2.1 st.2.2.2).getLast? with
    |none=>
     exfalso;rw[List.getLast?_eq_none_iff]at z;unfold cB at z;by_cases hx:st.2.2.2=[]<;>by_cases hg:st.2.2.1=[]<;>simp[hx,hg]at z Up
    |some q=>
     rw[z]at hp;simp at hp;subst hp;exact wO Up q z
  .exact h
def jb(c:List Pt):nJ (bg c)=true:=by
 have:∀(c:List Pt) (st:FS),wK st->wK (c.foldl bN st):=λc=>by
  induction c with
  |nil=>exact λst h=>h
  |cons p c ih=>exact λst h=>ih _ (CH h p)
 exact wN (this c fQ ⟨rfl,λz=>absurd rfl z,λp hp=>by simp[fQ]at hp⟩)
abbrev Bl:=List Nat×List Nat
abbrev BS:=List Bl×Bl
noncomputable def ff(st:BS):Pt->BS
 |.drop s=>(st.1,(st.2.1++s,st.2.2))
 |.put s=>(st.1,(st.2.1,st.2.2++s))
 |.keep 0=>st
 |.keep (n+1)=>(st.1++st.2 :: List.replicate n ([],[]),([],[]))
noncomputable def pA:BS:=([],([],[]))
noncomputable def blocks(c:List Pt):BS:=c.foldl ff pA
noncomputable def lS(st:List Pt×Nat)(b:Bl):List Pt×Nat:=if b.1=[]/\b.2=[]then (st.1,st.2+1)else (st.1++cB st.2 b.1 b.2,1)
noncomputable def pk(bs:List Bl):List Pt×Nat:=bs.foldl lS ([],0)
def EX(n:Nat):∀st:List Pt×Nat,(List.replicate n (([],[]):Bl)).foldl lS st=(st.1,st.2+n):=by
 induction n with
 |zero=>intro st;simp
 |succ n ih=>intro st;simp[Y5,lS,ih];omega
noncomputable def zp(st:BS):FS:=((pk st.1).1,(pk st.1).2,st.2.1,st.2.2)
def EY(st:BS)(p:Pt):bN (zp st) p=zp (ff st p):=by
 obtain⟨bs,g,x⟩:=st;cases p with
 |drop s=>rfl
 |put s=>rfl
 |keep n=>
  cases n with
  |zero=>rfl
  |succ n=>
   have e:pk (bs++(g,x) :: List.replicate n ([],[]))=((lS (pk bs) (g,x)).1,(lS (pk bs) (g,x)).2+n):=by
    simp only[pk,abI,aaF,EX]
   simp only[zp,ff,e,bN,Nat.succ_pos,aal,lS];by_cases h:g=[]/\x=[]
   .simp[h];omega
   .simp[h];omega
def EZ(c:List Pt):∀st:BS,c.foldl bN (zp st)=zp (c.foldl ff st):=by
 induction c with
 |nil=>intro st;rfl
 |cons p c ih=>intro st;simp only[aaF,EY,ih]
def jk(c:List Pt):bg c=dF (zp (blocks c)):=by
 unfold bg blocks;rw[<-EZ];rfl
noncomputable def CJ(st:List (List Nat)×List Nat):List Nat->List (List Nat)×List Nat
 |[]=>(st.1++[st.2],[])
 |c :: _=>(st.1,st.2++[c])
noncomputable def spT(st:List (List Nat)×List Nat):Tq->List (List Nat)×List Nat
 |.at _=>(st.1++[st.2],[])
 |.sg c=>(st.1,st.2++[c])
def CK(s:List Nat):∀st,(s.map λc=>[c]).foldl CJ st=(st.1,st.2++s):=by
 induction s with
 |nil=>intro st;simp
 |cons c s ih=>intro st;simp[CJ,ih]
def E1(n:Nat):∀st,(List.replicate n []).foldl CJ st=if n=0 then st else (st.1++st.2 :: List.replicate (n - 1) [],[]):=by
 induction n with
 |zero=>intro st;rfl
 |succ n ih=>
  intro st;simp only[Y5,aaF,CJ,ih];cases n with
  |zero=>simp
  |succ n=>simp[Y5]
def CL(s:List Nat):∀st,(s.map Tq.sg).foldl spT st=(st.1,st.2++s):=by
 induction s with
 |nil=>intro st;simp
 |cons c s ih=>intro st;simp[spT,ih]
def E2(n:Nat):∀(k:Nat) st,((List.range n).map λj=>Tq.at (k+j)).foldl spT st=if n=0 then st else (st.1++st.2 :: List.replicate (n - 1) [],[]):=by
 induction n with
 |zero=>intro k st;rfl
 |succ n ih=>
  intro k st;rw[abw,aad,abI,ih];cases n with
  |zero=>simp[spT]
  |succ n=>
   simp[spT];rw[<-List.replicate_succ',Y5]
def qO(c:List Pt):∀st:BS,(asks c).foldl CJ (st.1.map Prod.fst,st.2.1)=((c.foldl ff st).1.map Prod.fst,(c.foldl ff st).2.1):=by
 induction c with
 |nil=>intro st;rfl
 |cons p c ih=>
  intro st;have e:asks (p :: c)=p.asks++asks c:=by simp[asks]
  rw[e,abI,aaF,<-ih]
  congr 1
  cases p with
  |drop s=>simp[Pt.asks,CK,ff]
  |put s=>simp[Pt.asks,ff]
  |keep n=>
   simp only[Pt.asks,E1];cases n with
   |zero=>rfl
   |succ n=>simp[ff]
def qP(c:List Pt):∀(k:Nat) (st:BS),(told k c).foldl spT (st.1.map Prod.snd,st.2.2)=((c.foldl ff st).1.map Prod.snd,(c.foldl ff st).2.2):=by
 induction c with
 |nil=>intro k st;rfl
 |cons p c ih=>
  intro k st;rw[told,abI,aaF,<-ih (k+p.asks.length)]
  congr 1
  cases p with
  |put s=>simp[Pt.told,CL,ff]
  |drop s=>simp[Pt.told,ff]
  |keep n=>
   simp only[Pt.told,E2];cases n with
   |zero=>rfl
   |succ n=>simp[ff]
theorem zq{α β:Type}:∀{a b:List (α×β)},a.map Prod.fst=b.map Prod.fst->a.map Prod.snd=b.map Prod.snd->a=b
 |[],[],_,_=>rfl
 |[],_ :: _,h,_=>by simp at h
 |_ :: _,[],h,_=>by simp at h
 | (x,y) :: a,(x',y') :: b,h1,h2=>by
  simp at h1 h2;rw[h1.1,h2.1,zq h1.2 h2.2]
def nK{a b:List Pt}(h:kG a=kG b):blocks a=blocks b:=by
 have hA:asks a=asks b:=aab Prod.fst h;have hT:told 0 a=told 0 b:=aab Prod.snd h;have a1:=qO a pA;have b1:=qO b pA;have a2:=qP a 0 pA;have b2:=qP b 0 pA;rw[hA,b1]at a1;rw[hT,b2]at a2;have e1:=aab Prod.fst a1;have e2:=aab Prod.snd a1;have e3:=aab Prod.fst a2;have e4:=aab Prod.snd a2;unfold blocks;exact Prod.ext (zq e1.symm e3.symm) (Prod.ext e2.symm e4.symm)
def pY(a b:List Pt):bg a=bg b↔kG a=kG b:=by
 constructor
 .intro h;rw[<-mK a,<-mK b,h]
 .intro h;rw[jk,jk,nK h]
def kJ(a:List Pt):bg (bg a)=bg a:=(pY _ _).mpr (mK a)
noncomputable def Pt.sw:Pt->Pt
 |.keep n=>.keep n
 |.put s=>.drop s
 |.drop s=>.put s
noncomputable def sw(c:List Pt):List Pt:=c.map Pt.sw
def uh(c:List Pt):∀st:BS,(sw c).foldl ff (st.1.map Prod.swap,st.2.swap)=((c.foldl ff st).1.map Prod.swap,(c.foldl ff st).2.swap):=by
 induction c with
 |nil=>intro st;rfl
 |cons p c ih=>
  intro st;simp only[sw,Uz,aaF]at ih ⊢;rw[<-ih]
  congr 1
  cases p with
  |put s=>rfl
  |drop s=>rfl
  |keep n=>cases n<;>simp[Pt.sw,ff]
def JB{a b:List Pt}(h:bg a=bg b):bg (sw a)=bg (sw b):=by
 have hb:=nK ((pY a b).mp h);rw[jk,jk];have a1:=uh a pA;have b1:=uh b pA;have e:blocks (sw a)=blocks (sw b):=by
  unfold blocks at hb ⊢;have z:((pA.1.map Prod.swap,pA.2.swap):BS)=pA:=rfl;rw[z]at a1 b1;rw[a1,b1,hb]
 rw[e]
def NC(c:List Pt):aF (sw c)=gM c:=by
 induction c with
 |nil=>rfl
 |cons p c ih=>cases p<;>simp only[sw,Uz,Pt.sw,kH,mQ,kI,AD,AE,AF]at ih ⊢<;>omega
noncomputable def aX:List Pt->List Nat->Bool
 |[],t=>t.isEmpty
 |.keep n :: c,t=>decide (n<=t.length)&&aX c (t.drop n)
 |.drop s :: c,t=>s.isPrefixOf t&&aX c (t.drop s.length)
 |.put _ :: c,t=>aX c t
noncomputable def aJ:List Pt->List Nat->List Nat
 |[],_=>[]
 |.keep n :: c,t=>t.take n++aJ c (t.drop n)
 |.drop s :: c,t=>aJ c (t.drop s.length)
 |.put s :: c,t=>s++aJ c t
noncomputable def bh:List (List Nat)->List Nat->Bool
 |[],[]=>true
 |x :: a,c :: t=>(decide (x=[]) ||decide (x=[c]))&&bh a t
 |_,_=>false
def CM(n:Nat)(a:List (List Nat)):∀t,bh (List.replicate n []++a) t=(decide (n<=t.length)&&bh a (t.drop n)):=by
 induction n with
 |zero=>intro t;simp
 |succ n ih=>
  intro t;cases t with
  |nil=>simp[Y5,bh]
  |cons c t=>simp[Y5,bh,ih]
def CN(s:List Nat)(a:List (List Nat)):∀t,bh ((s.map λc=>[c])++a) t=(s.isPrefixOf t&&bh a (t.drop s.length)):=by
 induction s with
 |nil=>intro t;simp
 |cons c s ih=>
  intro t;cases t with
  |nil=>simp[bh]
  |cons d t=>
   simp only[Uz,aax,bh,ih,List.isPrefixOf,aaf,abf];by_cases h:c=d<;>simp[h]
def gD(c:List Pt):∀t,aX c t=bh (asks c) t:=by
 induction c with
 |nil=>intro t;cases t<;>rfl
 |cons p c ih=>
  intro t;have e:asks (p :: c)=p.asks++asks c:=by simp[asks]
  rw[e];cases p with
  |keep n=>simp[aX,Pt.asks,CM,ih]
  |drop s=>simp[aX,Pt.asks,CN,ih]
  |put s=>simp[aX,Pt.asks,ih]
def wQ(c:List Pt)(t:List Nat):aX (bg c) t=aX c t:=by rw[gD,gD,gA]
noncomputable def pick(t:List Nat):Tq->List Nat
 |.at i=>(t[i]?).toList
 |.sg c=>[c]
def CO(c:List Pt):∀(t:List Nat) (k:Nat),aJ c (t.drop k)=(told k c).flatMap (pick t):=by
 induction c with
 |nil=>intro t k;rfl
 |cons p c ih=>
  intro t k;rw[told,ac0,<-ih];cases p with
  |put s=>
   simp only[aJ,Pt.told,Pt.asks,aby,Nat.add_zero]
   congr 1
   induction s with
   |nil=>rfl
   |cons c s ih=>simp[pick]at ih ⊢;exact ih
  |drop s=>simp[aJ,Pt.told,Pt.asks,abm]
  |keep n=>
   simp only[aJ,Pt.told,Pt.asks,acP,aaC]
   congr 1
   induction n generalizing k with
   |zero=>simp
   |succ n ihn=>
    rw[abw,aad,ac0,<-ihn];rw[List.take_add_one];simp[pick]
def iD(c:List Pt)(t:List Nat):aJ (bg c) t=aJ c t:=by
 have h1:=CO (bg c) t 0;have h2:=CO c t 0;rw[eT,<-h2]at h1;simpa using h1
def E3(c:List Pt):∀t,aX c t=true->aX (sw c) (aJ c t)=true/\aJ (sw c) (aJ c t)=t:=by
 induction c with
 |nil=>intro t h;simp[aX]at h;subst h;simp[sw,aX,aJ]
 |cons p c ih=>
  intro t h;cases p with
  |keep n=>
   simp only[aX,xg,aay]at h;obtain⟨h1,h2⟩:=ih _ h.2;have hl:(t.take n).length=n:=by simp;omega
   simp only[sw,Uz,Pt.sw,aJ,aX]at h1 h2 ⊢;have e1:(t.take n++aJ c (t.drop n)).drop n=aJ c (t.drop n):=by rw[List.drop_append_of_le_length (by omega),aa2 (by omega)];rfl
   have e2:(t.take n++aJ c (t.drop n)).take n=t.take n:=by rw[List.take_append_of_le_length (by omega),List.take_take,Nat.min_self]
   rw[e1,e2,h1,h2];simp;omega
  |drop s=>
   simp only[aX,xg]at h;obtain⟨h1,h2⟩:=ih _ h.2;simp only[sw,Uz,Pt.sw,aJ,aX]at h1 h2 ⊢;rw[h2];refine⟨h1,?_⟩;obtain⟨r,rfl⟩:=List.isPrefixOf_iff_prefix.mp h.1;simp
  |put s=>
   simp only[aX]at h;obtain⟨h1,h2⟩:=ih _ h;simp only[sw,Uz,Pt.sw,aJ,aX]at h1 h2 ⊢;simp[h1,h2]
noncomputable def E4:S:=.set 2 (.c (.int 0))
noncomputable def E5(cj:Nat):Ss:=(.cons (.iff (.an (.cmp .eq (.ix (.v 3) (.c (.int 0))) (.c (.str [100,114,111,112]))) (.cmp .ne (.sl (.v 1) (.yes (.v 2)) (.yes (.bin .add (.v 2) (.cl cj (.cons (.v 3) .nil))))) (.ix (.v 3) (.c (.int 1))))) (.cons (.ret (.c (.bl false))) .nil) .nil) (.cons (.iff (.cmp .ne (.ix (.v 3) (.c (.int 0))) (.c (.str [112,117,116]))) (.cons (.set 2 (.bin .add (.v 2) (.cl cj (.cons (.v 3) .nil)))) .nil) .nil) .nil))
noncomputable def E6(cj:Nat):S:=.for (.one 3) (.seq (.v 0)) (E5 cj)
noncomputable def E7:S:=.ret (.cmp .eq (.v 2) (.bi .len (.cons (.v 1) .nil)))
noncomputable def CP(cj:Nat):Fn:=⟨2,4,(.cons E4 (.cons (E6 cj) (.cons E7 .nil)))⟩
noncomputable def E8(wR:Nat):S:=.iff (.nt (.cl wR (.cons (.v 0) (.cons (.v 1) .nil)))) (.cons (.eS 0) .nil) .nil
noncomputable def E9:S:=.set 2 (.lst .nil)
noncomputable def Fb:S:=.set 3 (.c (.int 0))
noncomputable def Fc:Ss:=(.cons (.iff (.cmp .eq (.v 4) (.c (.str [112,117,116]))) (.cons (.exp (.me .append (.v 2) (.cons (.v 5) .nil))) .nil) (.cons (.iff (.cmp .eq (.v 4) (.c (.str [100,114,111,112]))) (.cons (.set 3 (.bin .add (.v 3) (.bi .len (.cons (.v 5) .nil)))) .nil) (.cons (.exp (.me .append (.v 2) (.cons (.sl (.v 1) (.yes (.v 3)) (.yes (.bin .add (.v 3) (.v 5)))) .nil))) (.cons (.set 3 (.bin .add (.v 3) (.v 5))) .nil))) .nil)) .nil)
noncomputable def Fd:S:=.for (.many [4,5]) (.seq (.v 0)) Fc
noncomputable def Fe:S:=.ret (.me .join (.c (.str [])) (.cons (.v 2) .nil))
noncomputable def ND(wR:Nat):Fn:=⟨2,6,(.cons (E8 wR) (.cons E9 (.cons Fb (.cons Fd (.cons Fe .nil)))))⟩
noncomputable def Ff:S:=.set 2 (.c (.int 0))
noncomputable def Fi:S:=.set 3 (.c (.str []))
noncomputable def Fj:Ss:=(.cons (.iff (.cmp .eq (.v 4) (.c (.str [112,117,116]))) (.cons (.set 3 (.bin .add (.v 3) (.v 5))) .nil) (.cons (.iff (.cmp .eq (.v 4) (.c (.str [100,114,111,112]))) (.cons (.iff (.cmp .ne (.sl (.v 1) (.yes (.v 2)) (.yes (.bin .add (.v 2) (.bi .len (.cons (.v 5) .nil))))) (.v 5)) (.cons (.ret (.c (.bz))) .nil) .nil) (.cons (.set 2 (.bin .add (.v 2) (.bi .len (.cons (.v 5) .nil)))) .nil)) (.cons (.set 3 (.bin .add (.v 3) (.sl (.v 1) (.yes (.v 2)) (.yes (.bin .add (.v 2) (.v 5)))))) (.cons (.set 2 (.bin .add (.v 2) (.v 5))) .nil))) .nil)) .nil)
noncomputable def Fp:S:=.for (.many [4,5]) (.seq (.v 0)) Fj
noncomputable def Fq:S:=.ret (.iU (.cmp .eq (.v 2) (.bi .len (.cons (.v 1) .nil))) (.v 3) (.c (.bz)))
noncomputable def NF:Fn:=⟨2,6,(.cons Ff (.cons Fi (.cons Fp (.cons Fq .nil))))⟩
def j8{α:Type}(l:List α)(p k:Nat):cut l (some (p:Int)) (some ((p:Int)+k))=(l.drop p).take k:=by
 have h1:¬ (p:Int)<0:=by omega
 have h2:¬ (p:Int)+k<0:=by omega
 have h3:((p:Int)+k).toNat=p+k:=by omega
 simp only[cut,aS,h1,h2,aaL,h3,abK];by_cases hp:p<=l.length
 .rw[ab0 hp];by_cases hk:p+k<=l.length
  .rw[ab0 hk];congr 1;omega
  .rw[acA (by omega),aau (by simp),aau (by simp;omega)]
 .have e1:min p l.length=l.length:=by omega
  rw[e1,aa2 (WE _),aa2 (by omega)];simp
def pre_take{s t:List Nat}:s.isPrefixOf t=decide (t.take s.length=s):=by
 cases h:s.isPrefixOf t with
 |true=>
  obtain⟨r,rfl⟩:=List.isPrefixOf_iff_prefix.mp h;simp
 |false=>
  symm
  rw[acG];intro e;have:s.isPrefixOf t=true:=List.isPrefixOf_iff_prefix.mpr (by have z:=List.take_prefix s.length t;rw[e]at z;exact z);rw[h]at this;cases this
def iE(a b:List Pt):aF (a++b)=aF a+aF b:=by simp[aF,tot]
def iF{c:List Pt}:∀{t:List Nat},aX c t=true->t.length=aF c:=by
 induction c with
 |nil=>intro t h;simp[aX]at h;subst h;rfl
 |cons p c ih=>
  intro t h;cases p with
  |keep n=>simp only[aX,xg,aay]at h;have:=ih h.2;rw[kH];simp at this;omega
  |drop s=>
   simp only[aX,xg]at h;have h2:=ih h.2;obtain⟨r,rfl⟩:=List.isPrefixOf_iff_prefix.mp h.1;rw[mQ];simp at h2 ⊢;omega
  |put s=>rw[kI];exact ih h
def j9(c:List Pt):∀t,(aJ c t).length<=t.length+tot c:=by
 induction c with
 |nil=>intro t;simp[aJ]
 |cons p c ih=>
  intro t;rw[cz];cases p with
  |keep n=>have:=ih (t.drop n);simp[aJ,Pt.n]at this ⊢;omega
  |drop s=>have:=ih (t.drop s.length);simp[aJ,Pt.n]at this ⊢;omega
  |put s=>have:=ih t;simp[aJ,Pt.n]at this ⊢;omega
section
variable{F:List Fn}{w n aO nL i:Nat}
def Ft(c:List Pt)(t:List Nat)(q:Nat)(p:Pt)(l:List Pt)(h:aX c t=(decide (q<=t.length)&&aX (p :: l) (t.drop q))) :
  (eE p=true->(∃s,p=.drop s/\(if (t.drop q).take s.length=s then aX c t=(decide (q+s.length<=t.length)&&aX l (t.drop (q+s.length)))else aX c t=false)))/\
  (eE p=false->aX c t=(decide (q+aF [p]<=t.length)&&aX l (t.drop (q+aF [p])))):=by
 cases p with
 |drop s=>
  refine⟨λ_=>⟨s,rfl,?_⟩,λz=>by simp[eE]at z⟩;simp only[aX,pre_take,aaC]at h;split
  .rename_i hs;rw[h];simp only[hs,decide_true,acW];have hl:=aab List.length hs;simp at hl;by_cases hq:q<=t.length
   .by_cases hq2:q+s.length<=t.length
    .simp[hq,hq2]
    .omega
   .have:¬ q+s.length<=t.length:=by omega
    simp[hq,this]
  .rename_i hs;rw[h];simp[hs]
 |keep k=>
  refine⟨λz=>by simp[eE]at z,λ_=>?_⟩;have e:aF [.keep k]=k:=by rw[kH];rfl
  rw[h,e];simp only[aX,aaC,abb];by_cases hq:q<=t.length
  .by_cases hq2:q+k<=t.length
   .have:k<=t.length - q:=by omega
    simp[hq,hq2,this]
   .have:¬ k<=t.length - q:=by omega
    simp[hq2,this]
  .have:¬ q+k<=t.length:=by omega
   simp[hq,this]
 |put s=>
  refine⟨λz=>by simp[eE]at z,λ_=>?_⟩;have e:aF [.put s]=0:=by rw[kI];rfl
  rw[h,e];simp[aX]
def Fv(hs:F[aO]?=some gh)(hf:F[i]?=some (CP aO))(c:List Pt)(t:List Nat)(h1:tot c<=10000)(h2:t.length<=10000):run F w (n+2) i [.val (aQ c),.val (.str t)]=some (.bl (aX c t),[]):=by
 refine bu hf rfl ?_;refine af (aR (by repeat array_get_dec) rfl rfl ?_);refine af (ji (vs:=c.map Pt.v) (cE (cS rfl) rfl) ?_);refine fO (e:=Pt.v) (λp l fr=>p++l=c/\aX c t=(decide (aF p<=t.length)&&aX l (t.drop (aF p)))/\∃a,vo a/\fr=[some (.val (aQ c)),some (.val (.str t)),some (.val (.int (aF p))),a]) (λp x l fr ⟨hpl,hfit,a,ha,hfr⟩=>?_) (λp fr ⟨hpl,hfit,a,ha,hfr⟩=>?_) c [] _ ⟨rfl,by simp[aF,tot],none,.none,rfl⟩
 .subst hfr;have wG:tot p+x.n+tot l=tot c:=by rw[<-hpl,eU,cz];omega
  have sz:=λfr=>b8 (fr:=fr) (ja (w:=w) (n:=n) hs x (by omega));obtain⟨k1,k2⟩:=Ft c t (aF p) x l hfit;have fh:(p++[x])++l=c:=by simpa using hpl
  have eb:aF (p++[x])=aF p+aF [x]:=iE p [x];have ei:((aF (p++[x]):Nat):Int)=(aF p:Int)+(aF [x]:Nat):=by rw[eb];simp
  cases x with
  |drop s=>
   obtain⟨s',e,k1⟩:=k1 rfl;cases e;have e2:aF [.drop s]=s.length:=by rw[mQ];rfl
   rw[e2]at eb ei;have cu:eV (.str t) (some (aF p:Int)) (some ((aF p:Int)+((Pt.drop s).n:Nat)))=some (.str ((t.drop (aF p)).take s.length)):=by rw[fk];exact aab (λz=>some (V.str z)) (j8 t (aF p) s.length)
   by_cases hx:(t.drop (aF p)).take s.length=s
   .rw[JP hx]at k1;have ne:cop .ne (.str ((t.drop (aF p)).take s.length)) (.str s)=some false:=by rw[gw,aaj hx];rfl
    refine dB (bind1 rfl ha) (af (aD (b:=false) (gX (b2:=false) (az rfl (by repeat array_get_dec) rfl) (az rfl (by (repeat (first|array_get_dec|exact sz _))) rfl)) (λh=>absurd h (by decide)) λ_=>ay ?_));refine af (aD (by repeat array_get_dec) (λ_=>?_) λh=>absurd h (by decide));refine af (aR (by (repeat (first|array_get_dec|exact sz _))) rfl rfl (ay (ay ?_)));rw[dw];exact⟨fh,by rw[eb];exact k1,some (.val (Pt.drop s).v),.val,by rw[ei];rfl⟩
   .rw[Yu hx]at k1;have ne:cop .ne (.str ((t.drop (aF p)).take s.length)) (.str s)=some true:=by rw[gw,aac hx];rfl
    refine dB (bind1 rfl ha) (af (aD (b:=true) (gX (b2:=true) (az rfl (by repeat array_get_dec) rfl) (az rfl (by (repeat (first|array_get_dec|exact sz _))) rfl)) (λ_=>?_) λh=>absurd h (by decide)));refine af (aU (by repeat array_get_dec) ?_);show nx _ _ _ _ _ _;rw[k1];exact⟨rfl,rfl⟩
  |keep k=>
   have k2:=k2 rfl;have e2:aF [.keep k]=k:=by rw[kH];rfl
   rw[e2]at k2 eb ei;refine dB (bind1 rfl ha) (af (aD (b:=false) (qI (az rfl (by repeat array_get_dec) rfl)) (λh=>absurd h (by decide)) λ_=>ay ?_));refine af (aD (by repeat array_get_dec) (λ_=>?_) λh=>absurd h (by decide));refine af (aR (by (repeat (first|array_get_dec|exact sz _))) rfl rfl (ay (ay ?_)));rw[dw];exact⟨fh,by rw[eb];exact k2,some (.val (Pt.keep k).v),.val,by rw[ei];rfl⟩
  |put s=>
   have k2:=k2 rfl;have e2:aF [.put s]=0:=by rw[kI];rfl
   rw[e2]at k2 eb;refine dB (bind1 rfl ha) (af (aD (b:=false) (qI (az rfl (by repeat array_get_dec) rfl)) (λh=>absurd h (by decide)) λ_=>ay ?_));refine af (aD (by repeat array_get_dec) (λh=>absurd h (by decide)) λ_=>ay (ay ?_));rw[dw];exact⟨fh,by rw[eb];exact k2,some (.val (Pt.put s).v),.val,by rw[eb];rfl⟩
 .subst hfr;simp at hpl;subst hpl;have e:decide ((aF p:Int)=(t.length:Nat))=aX p t:=by
   rw[hfit];simp only[aX];by_cases hq:aF p=t.length
   .have:(aF p:Int)=t.length:=by omega
    simp[this,hq]
   .have:¬ (aF p:Int)=t.length:=by omega
    simp[this];intro h;omega
  have ln:cH .len [.str t]=some (.int (t.length:Nat)):=abh (by omega);have eq:cop .eq (.int (aF p)) (.int (t.length:Nat))=some (aX p t):=by rw[sC,e]
  have sh:fK [some (.val (aQ p)),some (.val (.str t)),some (.val (.int (aF p))),a]=[some (.val (aQ p)),some (.val (.str t)),some (.val (.int (aF p))),a]:=by
   show _ :: _ :: _ :: [a.map Sl.dN]=_;rw[cy ha];rfl
  refine af (aU (v:=.bl (aX p t)) (ah:=[some (.val (aQ p)),some (.val (.str t)),some (.val (.int (aF p))),a]) ?_ ⟨rfl,rfl⟩);rw[sh];repeat array_get_dec
def Fw(hs:F[aO]?=some gh)(hf:F[nL]?=some (CP aO))(hd:F[i]?=some (ND nL))(c:List Pt)(t:List Nat)(h1:tot c<=10000)(h2:t.length<=10000)(h3:c.length<=10000)(h:aX c t=true):run F w (n+3) i [.val (aQ c),.val (.str t)]=some (.str (aJ c t),[]):=by
 refine bu hd rfl ?_;have ft:=λfr=>call2 (fr:=fr) (Fv (w:=w) (n:=n) hs hf c t h1 h2);rw[h]at ft;refine af (aD (b:=false) (gb (az (b:=true) rfl (by (repeat (first|array_get_dec|exact ft _))) rfl)) (λh=>absurd h (by decide)) λ_=>ay ?_);refine af (gg (l:=[]) (by repeat array_get_dec) rfl rfl ?_);refine af (aR (by repeat array_get_dec) rfl rfl ?_);refine af (ji (vs:=c.map Pt.v) (cE (cS rfl) rfl) ?_);refine fO (e:=Pt.v) (λp l fr=>p++l=c/\∃ps a b,vo a/\vo b/\ps.length<=p.length/\ps.flatten++aJ l (t.drop (aF p))=aJ c t/\fr=[some (.val (aQ c)),some (.val (.str t)),some (.own (ps.map V.str)),some (.val (.int (aF p))),a,b]) (λp x l fr ⟨hpl,ps,a,b,ha,hb,hl,hd,hfr⟩=>?_) (λp fr ⟨hpl,ps,a,b,ha,hb,hl,hd,hfr⟩=>?_) c [] _ ⟨rfl,[],none,none,.none,.none,by simp,by simp[aF,tot],rfl⟩
 .subst hfr;have fh:(p++[x])++l=c:=by simpa using hpl
  have eb:aF (p++[x])=aF p+aF [x]:=iE p [x];have ei:((aF (p++[x]):Nat):Int)=(aF p:Int)+(aF [x]:Nat):=by rw[eb];simp
  have wG:tot p+x.n+tot l=tot c:=by rw[<-hpl,eU,cz];omega
  have hlen:p.length+l.length+1=c.length:=by rw[<-hpl];simp;omega
  have ap:∀(fr:Fr) (z:List Nat),gW .append 2 [.str z] fr (some (some (.own (ps.map V.str))))=.ok .bz (fr.set 2 (some (.own ((ps++[z]).map V.str)))):=λfr z=>by
   rw[aad];exact lR (by simp;omega)
  cases x with
  |put s=>
   have e2:aF [.put s]=0:=by rw[kI];rfl
   rw[e2]at eb;refine dB (iP rfl ha rfl hb) (af (aD (by repeat array_get_dec) (λ_=>?_) λh=>absurd h (by decide)));refine af (fz (by (repeat (first|array_get_dec|exact ap _ _))) (ay (ay ?_)));rw[dw];exact⟨fh,ps++[s],some (.val (.str mG)),some (.val (.str s)),.val,.val,by simp;omega,by rw[eb];simpa[aJ]using hd,by rw[eb];rfl⟩
  |drop s=>
   have e2:aF [.drop s]=s.length:=by rw[mQ];rfl
   rw[e2]at eb ei;have Zd:s.length<=tot c:=by simp only[Pt.n]at wG;omega
   have ln:cH .len [.str s]=some (.int (s.length:Nat)):=abh (by omega);refine dB (iP rfl ha rfl hb) (af (aD (by repeat array_get_dec) (λh=>absurd h (by decide)) λ_=>?_));refine af (aD (by repeat array_get_dec) (λ_=>?_) λh=>absurd h (by decide));refine af (aR (by repeat array_get_dec) rfl rfl (ay (ay (ay ?_))));rw[dw];exact⟨fh,ps,some (.val (.str jH)),some (.val (.str s)),.val,.val,by simp;omega,by rw[eb];simpa[aJ]using hd,by rw[ei];rfl⟩
  |keep k=>
   have e2:aF [.keep k]=k:=by rw[kH];rfl
   rw[e2]at eb ei;have cu:eV (.str t) (some (aF p:Int)) (some ((aF p:Int)+(k:Nat)))=some (.str ((t.drop (aF p)).take k)):=by rw[fk,j8]
   refine dB (iP rfl ha rfl hb) (af (aD (by repeat array_get_dec) (λh=>absurd h (by decide)) λ_=>?_));refine af (aD (by repeat array_get_dec) (λh=>absurd h (by decide)) λ_=>?_);refine af (fz (by (repeat (first|array_get_dec|exact ap _ _))) ?_);refine af (aR (by repeat array_get_dec) rfl rfl (ay (ay (ay ?_))));rw[dw];exact⟨fh,ps++[(t.drop (aF p)).take k],some (.val (.str eO)),some (.val (.int k)),.val,.val,by simp;omega,by rw[eb];simpa[aJ]using hd,by rw[ei];rfl⟩
 .subst hfr;simp at hpl;subst hpl;have hd':ps.flatten=aJ p t:=by simpa[aJ]using hd
  have dl:=j9 p t;have hj:=qD (l:=ps) (by rw[hd'];omega);rw[hd']at hj;have sh:fK [some (.val (aQ p)),some (.val (.str t)),some (.own (ps.map V.str)),some (.val (.int (aF p))),a,b]=[some (.val (aQ p)),some (.val (.str t)),some (.val (.lst (ps.map V.str))),some (.val (.int (aF p))),a,b]:=by
   show _ :: _ :: _ :: _ :: a.map Sl.dN :: [b.map Sl.dN]=_;rw[cy ha,cy hb];rfl
  refine af (aU (v:=.str (aJ p t)) (ah:=[some (.val (aQ p)),some (.val (.str t)),some (.val (.lst (ps.map V.str))),some (.val (.int (aF p))),a,b]) ?_ ⟨rfl,rfl⟩);rw[sh];repeat array_get_dec
end
end Pv
namespace Pv
open Ev (rep)
def CQ(ns:List Int)(at_:Int)(s:List Nat)(k:Nat):tot (jI ns at_ s k)<=3:=by
 have h1:=j6 ns (at_+4*k+2) (many:=2) (by decide);have h2:=j5 ns (at_+4*k+2) (many:=2) (by decide);unfold jI;rw[eU];have a:tot (if cU ns (at_+4*k) 4=0 then [Pt.put (rep (1+cU ns (at_+4*k+2) 2).toNat [[97,98,122].getD (cU ns (at_+4*k+1) 3).toNat 0])]else [])<=2:=by
  split
  .simp[tot,Pt.n,rep];omega
  .simp[tot]
 cases s[k]? with
 |none=>simp[tot]at a ⊢;omega
 |some c=>
  have b:tot [if 0<cU ns (at_+4*k+3) 3 then Pt.keep 1 else Pt.drop [c]]<=1:=by split<;>simp[tot,Pt.n]
  simp only at b ⊢;omega
theorem um(ns:List Int)(at_:Int)(s:List Nat):∀k,tot (gc ns at_ s k)<=3*k
 |0=>by simp[gc,tot]
 |k+1=>by
  have h1:=CQ ns at_ s k;have h2:=um ns at_ s k;rw[jJ,eU];omega
theorem pZ:∀{a:List (List Nat)}{t:List Nat},bh a t=true->a.length=t.length
 |[],[],_=>rfl
 |x :: a,c :: t,h=>by simp[bh]at h;simp[pZ h.2]
 |[],_ :: _,h=>by simp[bh]at h
 |_ :: _,[],h=>by simp[bh]at h
theorem qa:∀{a b:List (List Nat)}{t u:List Nat},bh a t=true->bh b u=true->bh (a++b) (t++u)=true
 |[],_,[],_,_,hb=>hb
 |x :: a,b,c :: t,u,ha,hb=>by
  simp only[bh,xg]at ha;simp only[aax,bh,xg];exact⟨ha.1,qa ha.2 hb⟩
 |[],_,_ :: _,_,ha,_=>by simp[bh]at ha
 |_ :: _,_,[],_,ha,_=>by simp[bh]at ha
def JD(ns:List Int)(at_:Int)(s:List Nat)(k:Nat):bh (asks (jI ns at_ s k)) (s[k]?).toList=true:=by
 unfold jI;rw[eZ];have a:asks (if cU ns (at_+4*k) 4=0 then [Pt.put (rep (1+cU ns (at_+4*k+2) 2).toNat [[97,98,122].getD (cU ns (at_+4*k+1) 3).toNat 0])]else [])=[]:=by
  split<;>simp[asks,Pt.asks]
 rw[a];cases s[k]? with
 |none=>simp[asks,bh]
 |some c=>simp only;split<;>simp[asks,Pt.asks,bh]
theorem CS(ns:List Int)(at_:Int)(s:List Nat):∀k,bh (asks (gc ns at_ s k)) (s.take k)=true
 |0=>by simp[gc,asks,bh]
 |k+1=>by
  rw[jJ,eZ,List.take_add_one];exact qa (CS ns at_ s k) (JD ns at_ s k)
def zu(ns:List Int)(at_:Int)(s:List Nat):aX (chg ns at_ s) s=true:=by
 have:=CS ns at_ s (s.length+1);rw[aau (by omega)]at this;rw[gD];exact this
end Pv
namespace Pv
inductive At where
 |k|d (c:Nat)|p (c:Nat)
noncomputable def Pt.aV:Pt->List At
 |.keep n=>List.replicate n .k
 |.drop s=>s.map .d
 |.put s=>s.map .p
noncomputable def aV(c:List Pt):List At:=c.flatMap Pt.aV
def jO(a b:List Pt):aV (a++b)=aV a++aV b:=by simp[aV]
def dG(p:Pt)(c:List Pt):aV (p :: c)=p.aV++aV c:=by simp[aV]
def wU(p:Pt):p.aV.length=p.n:=by cases p<;>simp[Pt.aV,Pt.n]
def jP(c:List Pt):(aV c).length=tot c:=by
 induction c with
 |nil=>rfl
 |cons p c ih=>rw[dG,Yt,wU,ih,cz]
noncomputable def tA:Nat->List At->List Tq
 |_,[]=>[]
 |i,.k :: a=>.at i :: tA (i+1) a
 |i,.d _ :: a=>tA (i+1) a
 |i,.p c :: a=>.sg c :: tA i a
noncomputable def aA:List At->List (List Nat)
 |[]=>[]
 |.k :: a=>[] :: aA a
 |.d c :: a=>[c] :: aA a
 |.p _ :: a=>aA a
noncomputable def dA:List At->List Nat->List Nat
 |[],_=>[]
 |.k :: a,t=>t.take 1++dA a (t.drop 1)
 |.d _ :: a,t=>dA a (t.drop 1)
 |.p c :: a,t=>c :: dA a t
noncomputable def pB:At->At
 |.k=>.k
 |.d c=>.p c
 |.p c=>.d c
noncomputable def cA:List At->Nat
 |[]=>0
 |.k :: a=>cA a
 |_ :: a=>cA a+1
theorem qQ:∀a b:List At,aA (a++b)=aA a++aA b
 |[],_=>rfl
 |.k :: a,b=>by simp[aA,qQ a b]
 |.d c :: a,b=>by simp[aA,qQ a b]
 |.p c :: a,b=>by simp[aA,qQ a b]
theorem qR:∀(a b:List At) (i:Nat),tA i (a++b)=tA i a++tA (i+(aA a).length) b
 |[],_,_=>rfl
 |.k :: a,b,i=>by simp[tA,aA,qR a b,abP,abm 1]
 |.d c :: a,b,i=>by simp[tA,aA,qR a b,abP,abm 1]
 |.p c :: a,b,i=>by simp[tA,aA,qR a b]
theorem qS:∀a b:List At,cA (a++b)=cA a+cA b
 |[],b=>by simp[cA]
 |.k :: a,b=>by simp[cA,qS a b]
 |.d c :: a,b=>by simp[cA,qS a b];omega
 |.p c :: a,b=>by simp[cA,qS a b];omega
def G1(p:Pt):aA p.aV=p.asks:=by
 cases p with
 |keep n=>simp only[Pt.aV,Pt.asks];induction n<;>simp_all [Y5,aA]
 |drop s=>simp only[Pt.aV,Pt.asks];induction s<;>simp_all [aA]
 |put s=>simp only[Pt.aV,Pt.asks];induction s<;>simp_all [aA]
def Rl(p:Pt):∀i,tA i p.aV=p.told i:=by
 cases p with
 |keep n=>
  simp only[Pt.aV,Pt.told];induction n with
  |zero=>intro i;rfl
  |succ n ih=>intro i;simp only[Y5,tA,ih,abO,Uz,aaD];simp[acn,abP,abm 1]
 |drop s=>intro i;simp only[Pt.aV,Pt.told];induction s generalizing i<;>simp_all [tA]
 |put s=>intro i;simp only[Pt.aV,Pt.told];induction s generalizing i<;>simp_all [tA]
def Rm(p:Pt):cA p.aV=cst [p]:=by
 cases p with
 |keep n=>simp only[Pt.aV];rw[GV];induction n<;>simp_all [Y5,cA,cst,tot]
 |drop s=>simp only[Pt.aV];rw[GW];induction s<;>simp_all [cA,cst,tot]
 |put s=>simp only[Pt.aV];rw[GX];induction s<;>simp_all [cA,cst,tot]
def gE(c:List Pt):asks c=aA (aV c):=by
 induction c with
 |nil=>rfl
 |cons p c ih=>rw[dG,qQ,G1,<-ih];simp[asks]
def fc(c:List Pt):∀i,told i c=tA i (aV c):=by
 induction c with
 |nil=>intro i;rfl
 |cons p c ih=>intro i;rw[dG,qR,Rl,G1,<-ih,told]
def oK(c:List Pt):cst c=cA (aV c):=by
 induction c with
 |nil=>rfl
 |cons p c ih=>
  rw[dG,qS,Rm,<-ih];simp[cst,tot];cases p<;>simp[abt,fP]
def wV(c:List Pt):aV (sw c)=(aV c).map pB:=by
 induction c with
 |nil=>rfl
 |cons p c ih=>
  have:aV (sw (p :: c))=p.sw.aV++aV (sw c):=by simp[aV,sw]
  rw[this,ih,dG,aad]
  congr 1
  cases p<;>simp[Pt.sw,Pt.aV,pB,acn]
def fF:∀(c:List Pt) (t:List Nat),aJ c t=dA (aV c) t:=by
 have k:∀(n:Nat) (a:List At) (t:List Nat),dA (List.replicate n .k++a) t=t.take n++dA a (t.drop n):=λn=>by
  induction n with
  |zero=>intro a t;simp
  |succ n ih=>
   intro a t;simp only[Y5,aax,dA,ih,aaC];cases t with
   |nil=>simp
   |cons c t=>simp[abm 1]
 have d:∀(s:List Nat) (a:List At) (t:List Nat),dA (s.map .d++a) t=dA a (t.drop s.length):=λs=>by
  induction s with
  |nil=>intro a t;simp
  |cons c s ih=>intro a t;simp[dA,ih,abm 1]
 have p:∀(s:List Nat) (a:List At) (t:List Nat),dA (s.map .p++a) t=s++dA a t:=λs=>by
  induction s with
  |nil=>intro a t;simp
  |cons c s ih=>intro a t;simp[dA,ih]
 intro c;induction c with
 |nil=>intro t;rfl
 |cons q c ih=>
  intro t;rw[dG];cases q with
  |keep n=>simp only[Pt.aV,k,aJ,ih]
  |drop s=>simp only[Pt.aV,d,aJ,ih]
  |put s=>simp only[Pt.aV,p,aJ,ih]
noncomputable def CT:List At->Bool
 |.d _ :: _=>false
 |_=>true
inductive Th:List At->List At->List At->Prop
 |nil:Th [] [] []
 |d {a b r c}:Th a b r->Th (.d c :: a) b (.d c :: r)
 |p {a b r c}:CT a=true->Th a b r->Th a (.p c :: b) (.p c :: r)
 |kk {a b r}:Th a b r->Th (.k :: a) (.k :: b) (.k :: r)
 |kd {a b r c}:Th a b r->Th (.k :: a) (.d c :: b) (.d c :: r)
 |pk {a b r c}:Th a b r->Th (.p c :: a) (.k :: b) (.p c :: r)
 |pd {a b r c}:Th a b r->Th (.p c :: a) (.d c :: b) r
noncomputable def sub(L:List Tq):Tq->Tq
 |.at j=>L.getD j (.sg 0)
 |.sg c=>.sg c
def jZ{L M:List Tq}{q:Tq}{j:Nat}(h:L.length=j):sub (L++q :: M) (.at j)=q:=by
 subst h;simp[sub]
def Th.told{a b r:List At}(h:Th a b r):∀(i j:Nat) (L:List Tq),L.length=j->tA i r=(tA j b).map (sub (L++tA i a)):=by
 induction h with
 |nil=>intro i j L hL;rfl
 |d h ih=>intro i j L hL;exact ih (i+1) j L hL
 |p _ h ih=>intro i j L hL;simp only[tA,Uz];rw[ih i j L hL];rfl
 |kk h ih=>
  intro i j L hL;simp only[tA,Uz];rw[ih (i+1) (j+1) (L++[.at i]) (by simp[hL]),jZ hL];simp
 |kd h ih=>
  intro i j L hL;simp only[tA];rw[ih (i+1) (j+1) (L++[.at i]) (by simp[hL])];simp
 |@pk _ _ _ c h ih=>
  intro i j L hL;simp only[tA,Uz];rw[ih i (j+1) (L++[.sg c]) (by simp[hL]),jZ hL];simp
 |@pd _ _ _ c h ih=>
  intro i j L hL;simp only[tA];rw[ih i (j+1) (L++[.sg c]) (by simp[hL])];simp
def Th.back{a b r:List At}(h:Th a b r):∀(i j:Nat) (L:List Tq),L.length=j->tA i (r.map pB)=(tA j (a.map pB)).map (sub (L++tA i (b.map pB))):=by
 induction h with
 |nil=>intro i j L hL;rfl
 |d h ih=>intro i j L hL;simp only[Uz,pB,tA];rw[ih i j L hL];rfl
 |p _ h ih=>intro i j L hL;exact ih (i+1) j L hL
 |kk h ih=>
  intro i j L hL;simp only[Uz,pB,tA];rw[ih (i+1) (j+1) (L++[.at i]) (by simp[hL]),jZ hL];simp
 |@kd _ _ _ c h ih=>
  intro i j L hL;simp only[Uz,pB,tA];rw[ih i (j+1) (L++[.sg c]) (by simp[hL]),jZ hL];simp
 |pk h ih=>
  intro i j L hL;simp only[Uz,pB,tA];rw[ih (i+1) (j+1) (L++[.at i]) (by simp[hL])];simp
 |@pd _ _ _ c h ih=>
  intro i j L hL;simp only[Uz,pB,tA];rw[ih i (j+1) (L++[.sg c]) (by simp[hL])];simp
def Th.fit{a b r:List At}(h:Th a b r):∀t,bh (aA a) t=true->bh (aA b) (dA a t)=true->bh (aA r) t=true:=by
 induction h with
 |nil=>intro t h1 _;exact h1
 |d h ih=>
  intro t h1 h2;cases t with
  |nil=>simp[aA,bh]at h1
  |cons x t=>simp only[aA,bh,xg]at h1 ⊢;exact⟨h1.1,ih t h1.2 h2⟩
 |p _ h ih=>intro t h1 h2;exact ih t h1 h2
 |kk h ih=>
  intro t h1 h2;cases t with
  |nil=>simp[aA,bh]at h1
  |cons x t=>simp only[aA,bh,xg,dA,aaS,List.take_zero,abf,abo,abp]at h1 h2 ⊢;exact⟨h1.1,ih t h1.2 h2.2⟩
 |kd h ih=>
  intro t h1 h2;cases t with
  |nil=>simp[aA,bh]at h1
  |cons x t=>simp only[aA,bh,xg,dA,aaS,List.take_zero,abf,abo,abp]at h1 h2 ⊢;exact⟨h2.1,ih t h1.2 h2.2⟩
 |pk h ih=>intro t h1 h2;simp only[aA,dA,bh,xg]at h1 h2 ⊢;exact ih t h1 h2.2
 |pd h ih=>intro t h1 h2;simp only[aA,dA,bh,xg]at h1 h2 ⊢;exact ih t h1 h2.2
def Th.all:∀(n:Nat) (a b:List At) (t:List Nat),a.length+b.length<=n->bh (aA a) t=true->bh (aA b) (dA a t)=true->∃r,Th a b r:=by
 intro n;induction n with
 |zero=>
  intro a b t hn _ _;obtain rfl:a=[]:=List.length_eq_zero_iff.mp (by omega);obtain rfl:b=[]:=List.length_eq_zero_iff.mp (by omega);exact⟨[],.nil⟩
 |succ n ih=>
  intro a b t hn h1 h2;cases a with
  |nil=>
   cases b with
   |nil=>exact⟨[],.nil⟩
   |cons y b=>
    cases y with
    |p c=>obtain⟨r,h⟩:=ih [] b t (by simp at hn ⊢;omega) h1 h2;exact⟨_,.p rfl h⟩
    |k=>simp[aA,dA,bh]at h2
    |d c=>simp[aA,dA,bh]at h2
  |cons x a=>
   by_cases hd:CT (x :: a)=true
   .cases b with
    |nil=>
     cases x with
     |d c=>cases hd
     |k=>cases t<;>simp[aA,dA,bh]at h1 h2
     |p c=>simp[aA,dA,bh]at h2
    |cons y b=>
     cases y with
     |p c=>obtain⟨r,h⟩:=ih (x :: a) b t (by simp at hn ⊢;omega) h1 h2;exact⟨_,.p hd h⟩
     |k=>
      cases x with
      |d c=>cases hd
      |k=>
       cases t with
       |nil=>simp[aA,bh]at h1
       |cons z t=>
        simp[aA,bh,dA]at h1 h2;obtain⟨r,h⟩:=ih a b t (by simp at hn ⊢;omega) h1 h2;exact⟨_,.kk h⟩
      |p c=>
       simp[aA,bh,dA]at h1 h2;obtain⟨r,h⟩:=ih a b t (by simp at hn ⊢;omega) h1 h2;exact⟨_,.pk h⟩
     |d c'=>
      cases x with
      |d c=>cases hd
      |k=>
       cases t with
       |nil=>simp[aA,bh]at h1
       |cons z t=>
        simp[aA,bh,dA]at h1 h2;obtain⟨r,h⟩:=ih a b t (by simp at hn ⊢;omega) h1 h2.2;exact⟨_,.kd h⟩
      |p c=>
       simp[aA,bh,dA]at h1 h2;obtain⟨rfl,h2⟩:=h2;obtain⟨r,h⟩:=ih a b t (by simp at hn ⊢;omega) h1 h2;exact⟨_,.pd h⟩
   .cases x with
    |k=>exact absurd rfl hd
    |p c=>exact absurd rfl hd
    |d c=>
     cases t with
     |nil=>simp[aA,bh]at h1
     |cons z t=>
      simp[aA,bh]at h1;obtain⟨r,h⟩:=ih a b t (by simp at hn ⊢;omega) h1.2 h2;exact⟨_,.d h⟩
def Th.done{a b r:List At}(h:Th a b r):∀t,bh (aA a) t=true->dA r t=dA b (dA a t):=by
 induction h with
 |nil=>intro t _;rfl
 |d h ih=>
  intro t h1;cases t with
  |nil=>simp[aA,bh]at h1
  |cons x t=>simp only[aA,bh,xg]at h1;simp only[dA];exact ih t h1.2
 |p _ h ih=>intro t h1;simp only[dA];rw[ih t h1]
 |kk h ih=>
  intro t h1;cases t with
  |nil=>simp[aA,bh]at h1
  |cons x t=>simp only[aA,bh,xg]at h1;simp[dA,ih t h1.2]
 |kd h ih=>
  intro t h1;cases t with
  |nil=>simp[aA,bh]at h1
  |cons x t=>simp only[aA,bh,xg]at h1;simp[dA,ih t h1.2]
 |pk h ih=>intro t h1;simp[dA,ih t h1]
 |pd h ih=>intro t h1;simp[dA,ih t h1]
def Th.cost{a b r:List At}(h:Th a b r):cA r<=cA a+cA b:=by induction h<;>simp[cA]<;>omega
def Th.len{a b r:List At}(h:Th a b r):r.length<=a.length+b.length:=by induction h<;>simp<;>omega
theorem Th.ds{b r:List At}:∀{s:List Nat}{a:List At},Th (s.map .d++a) b r->∃r',r=s.map .d++r'/\Th a b r'
 |[],a,h=>⟨r,rfl,h⟩
 |c :: s,a,h=>by
  cases h with
  |d h=>obtain⟨r',rfl,h'⟩:=Th.ds h;exact⟨r',rfl,h'⟩
  |p hn h=>cases hn
theorem Th.ps{a r:List At}(hn:CT a=true):∀{s:List Nat}{b:List At},Th a (s.map .p++b) r->∃r',r=s.map .p++r'/\Th a b r'
 |[],b,h=>⟨r,rfl,h⟩
 |c :: s,b,h=>by
  cases h with
  |d h=>cases hn
  |p _ h=>obtain⟨r',rfl,h'⟩:=Th.ps hn h;exact⟨r',rfl,h'⟩
def Th.Yp{a b r:List At}:∀{n:Nat},Th (List.replicate n .k++a) (List.replicate n .k++b) r->∃r',r=List.replicate n .k++r'/\Th a b r':=λ{n}=>by
 induction n generalizing r with
 |zero=>intro h;exact⟨r,rfl,h⟩
 |succ n ih=>intro h;cases h with|kk h=>obtain⟨r',rfl,h'⟩:=ih h;exact⟨r',rfl,h'⟩
def Th.Yq{a b r:List At}:∀{s:List Nat},Th (List.replicate s.length .k++a) (s.map .d++b) r->∃r',r=s.map .d++r'/\Th a b r':=λ{s}=>by
 induction s generalizing r with
 |nil=>intro h;exact⟨r,rfl,h⟩
 |cons c s ih=>intro h;cases h with|kd h=>obtain⟨r',rfl,h'⟩:=ih h;exact⟨r',rfl,h'⟩
def Th.Yr{a b r:List At}:∀{s:List Nat},Th (s.map .p++a) (List.replicate s.length .k++b) r->∃r',r=s.map .p++r'/\Th a b r':=λ{s}=>by
 induction s generalizing r with
 |nil=>intro h;exact⟨r,rfl,h⟩
 |cons c s ih=>intro h;cases h with|pk h=>obtain⟨r',rfl,h'⟩:=ih h;exact⟨r',rfl,h'⟩
theorem Th.Uq{a b r:List At}:∀{s s':List Nat},s.length=s'.length->Th (s.map .p++a) (s'.map .d++b) r->s=s'/\Th a b r
 |[],[],_,h=>⟨rfl,h⟩
 |[],_ :: _,hl,_=>by simp at hl
 |_ :: _,[],hl,_=>by simp at hl
 |c :: s,c' :: s',hl,h=>by cases h with|pd h=>obtain⟨rfl,h'⟩:=Th.Uq (by simpa using hl) h;exact⟨rfl,h'⟩
theorem iG:∀(a:List At) (i q:Nat),Tq.at q∈tA i a↔∃j,q=i+j/\(aA a)[j]?=some []
 |[],i,q=>by simp[tA,aA]
 |.k :: a,i,q=>by
  simp only[tA,aaY,iG a,aA];constructor
  .rintro(h|⟨j,rfl,h⟩)
   .cases h;exact⟨0,rfl,by simp⟩
   .exact⟨j+1,by omega,by simpa using h⟩
  .rintro⟨j,rfl,h⟩;cases j with
   |zero=>exact .inl rfl
   |succ j=>exact .inr ⟨j,by omega,by simpa using h⟩
 |.d c :: a,i,q=>by
  simp only[tA,iG a,aA];constructor
  .rintro⟨j,rfl,h⟩;exact⟨j+1,by omega,by simpa using h⟩
  .rintro⟨j,rfl,h⟩;cases j with
   |zero=>simp at h
   |succ j=>exact⟨j,by omega,by simpa using h⟩
 |.p c :: a,i,q=>by simp[tA,iG a,aA]
theorem sE:∀{a:List (List Nat)}{t:List Nat},bh a t=true->∀(j:Nat) x,a[j]?=some x->x=[]\/∃c,t[j]?=some c/\x=[c]
 |y :: a,c :: t,h,j,x,e=>by
  simp only[bh,xg,aaQ,aay]at h;cases j with
  |zero=>simp at e;subst e;exact h.1.imp id λz=>⟨c,by simp,z⟩
  |succ j=>simpa using sE h.2 j x (by simpa using e)
 |[],[],_,j,x,e=>by simp at e
 |[],_ :: _,h,_,_,_=>by simp[bh]at h
 |_ :: _,[],h,_,_,_=>by simp[bh]at h
def CU{a:List At}{A:List (List Nat)}{t:List Nat}(ha:bh (aA a) t=true)(hb:bh A t=true)(h:∀q:Nat,Tq.at q∈tA 0 a↔A[q]?=some []):aA a=A:=by
 have la:=pZ ha;have lb:=pZ hb;apply abJ;intro j;by_cases hj:j<t.length
 .obtain⟨x,hx⟩:∃x,(aA a)[j]?=some x:=⟨_,Uy (by omega)⟩
  obtain⟨y,hy⟩:∃y,A[j]?=some y:=⟨_,Uy (by omega)⟩
  have k1:=iG a 0 j;rw[h j,hy]at k1;have hxy:x=[]↔y=[]:=by
   constructor
   .rintro rfl;have:=k1.mpr ⟨j,by omega,hx⟩;cases this;rfl
   .rintro rfl;obtain⟨i,hi,e⟩:=k1.mp rfl;obtain rfl:i=j:=by omega
    rw[e]at hx;cases hx;rfl
  rw[hx,hy];rcases sE ha j x hx with Ur|⟨c,hc,Ys⟩
  .rw[Ur,hxy.mp Ur]
  .rcases sE hb j y hy with Us|⟨c',hc',hy1⟩
   .rw[Us,hxy.mpr Us]
   .rw[hc]at hc';cases hc';rw[Ys,hy1]
 .rw[aah (by omega),aah (by omega)]
def CV{a b:List At}{t:List Nat}(ha:bh (aA a) t=true)(hb:bh (aA b) t=true)(h:tA 0 a=tA 0 b):aA a=aA b:=
 CU ha hb λq=>by
  rw[h,iG b 0 q];constructor
  .rintro⟨j,hj,e⟩;obtain rfl:q=j:=by omega
   exact e
  .intro e;exact⟨q,by omega,e⟩
def CW{a b:List Pt}{t:List Nat}(ha:aX a t=true)(hb:aX b t=true)(h:told 0 a=told 0 b):bg a=bg b:=by
 rw[pY];rw[gD]at ha hb;have h':=h;rw[gE]at ha hb;rw[fc,fc]at h';have:=CV ha hb h';simp only[kG,h,gE,this]
def qb{c:List Pt}{t:List Nat}(h:aX c t=true):(aJ c t).length=gM c:=by
 rw[iF (E3 c t h).1,NC]
end Pv
namespace Pv
open Ev (D bJ bx TY BI ME T E Es Eo It S Ss Fn big deep b2i rep bT dO bL aS cut bE cY slots)
noncomputable def Fx(sG:Nat)(qc:Nat):S:=.iff (.cmp .ne (.cl sG (.cons (.v 0) .nil)) (.cl qc (.cons (.v 1) .nil))) (.cons (.eS 0) .nil) .nil
noncomputable def Fy(iR:Nat):S:=.set 2 (.gp (.rev (.cl iR (.cons (.v 0) .nil))))
noncomputable def Fz(iR:Nat):S:=.set 3 (.gp (.rev (.cl iR (.cons (.v 1) .nil))))
noncomputable def FA:S:=.set 4 (.lst .nil)
noncomputable def wW(cj:Nat)(qT:Nat)(jQ:Nat):Ss:=(.cons (.iff (.an (.v 2) (.cmp .eq (.ix (.ix (.v 2) (.neg (.c (.int 1)))) (.c (.int 0))) (.c (.str [100,114,111,112])))) (.cons (.exp (.me .append (.v 4) (.cons (.me .pop (.v 2) .nil) .nil))) .nil) (.cons (.iff (.an (.v 3) (.cmp .eq (.ix (.ix (.v 3) (.neg (.c (.int 1)))) (.c (.int 0))) (.c (.str [112,117,116])))) (.cons (.exp (.me .append (.v 4) (.cons (.me .pop (.v 3) .nil) .nil))) .nil) (.cons (.set 5 (.bi .min (.cons (.cl cj (.cons (.ix (.v 2) (.neg (.c (.int 1)))) .nil)) (.cons (.cl cj (.cons (.ix (.v 3) (.neg (.c (.int 1)))) .nil)) .nil)))) (.cons (.exp (.me .extend (.v 4) (.cons (.cl qT (.cons (.cl jQ (.cons (.v 2) (.cons (.v 5) .nil))) (.cons (.cl jQ (.cons (.v 3) (.cons (.v 5) .nil))) .nil))) .nil))) .nil))) .nil)) .nil)
noncomputable def FD(cj:Nat)(qT:Nat)(jQ:Nat):S:=.oU (.orr (.v 2) (.v 3)) (wW cj qT jQ)
noncomputable def FE(iR:Nat):S:=.ret (.cl iR (.cons (.jA (.v 4)) .nil))
noncomputable def lT(sG:Nat)(qc:Nat)(iR:Nat)(cj:Nat)(qT:Nat)(jQ:Nat):Fn:=⟨2,6,(.cons (Fx sG qc) (.cons (Fy iR) (.cons (Fz iR) (.cons FA (.cons (FD cj qT jQ) (.cons (FE iR) .nil))))))⟩
noncomputable def JF:S:=.iff (.cmp .eq (.ix (.v 1) (.c (.int 0))) (.c (.str [107,101,101,112]))) (.cons (.ret (.lst (.cons (.v 0) .nil))) .nil) .nil
noncomputable def JH:S:=.iff (.cmp .eq (.ix (.v 0) (.c (.int 0))) (.c (.str [107,101,101,112]))) (.cons (.ret (.lst (.cons (.v 1) .nil))) .nil) .nil
noncomputable def JJ:S:=.iff (.cmp .ne (.ix (.v 0) (.c (.int 1))) (.ix (.v 1) (.c (.int 1)))) (.cons (.eS 0) .nil) .nil
noncomputable def JK:S:=.ret (.lst .nil)
noncomputable def uY:Fn:=⟨2,2,(.cons JF (.cons JH (.cons JJ (.cons JK .nil))))⟩
noncomputable def CY(qd:Nat):S:=.set 2 (.cl qd (.cons (.me .pop (.v 0) .nil) (.cons (.v 1) .nil)))
noncomputable def CZ(cj:Nat):S:=.iff (.cmp .gt (.cl cj (.cons (.ix (.v 2) (.c (.int 1))) .nil)) (.c (.int 0))) (.cons (.exp (.me .append (.v 0) (.cons (.ix (.v 2) (.c (.int 1))) .nil))) .nil) .nil
noncomputable def C0:S:=.ret (.ix (.v 2) (.c (.int 0)))
noncomputable def lU(qd:Nat)(cj:Nat):Fn:=⟨2,3,(.cons (CY qd) (.cons (CZ cj) (.cons C0 .nil)))⟩
noncomputable def AG:S:=.set 2 (.ix (.v 0) (.c (.int 0)))
noncomputable def AH:S:=.iff (.cmp .eq (.v 2) (.c (.str [107,101,101,112]))) (.cons (.ret (.tup (.cons (.tup (.cons (.v 2) (.cons (.v 1) .nil))) (.cons (.tup (.cons (.v 2) (.cons (.bin .sub (.ix (.v 0) (.c (.int 1))) (.v 1)) .nil))) .nil)))) .nil) .nil
noncomputable def AI:S:=.ret (.tup (.cons (.tup (.cons (.v 2) (.cons (.sl (.ix (.v 0) (.c (.int 1))) .no (.yes (.v 1))) .nil))) (.cons (.tup (.cons (.v 2) (.cons (.sl (.ix (.v 0) (.c (.int 1))) (.yes (.v 1)) .no) .nil))) .nil)))
noncomputable def jc:Fn:=⟨2,3,(.cons AG (.cons AH (.cons AI .nil)))⟩
noncomputable def Pt.tk(m:Nat):Pt->Pt
 |.keep _=>.keep m
 |.put s=>.put (s.take m)
 |.drop s=>.drop (s.take m)
noncomputable def Pt.dp(m:Nat):Pt->Pt
 |.keep k=>.keep (k - m)
 |.put s=>.put (s.drop m)
 |.drop s=>.drop (s.drop m)
def uZ{α:Type}(l:List α)(m:Nat):cut l none (some (m:Int))=l.take m:=by
 have h1:¬ (m:Int)<0:=by omega
 simp only[cut,aS,h1,aaL,abK,abo,Nat.sub_zero];by_cases h:m<=l.length
 .rw[ab0 h]
 .rw[acA (by omega),aau (WE _),aau (by omega)]
def qU{α:Type}(l:List α)(m:Nat):cut l (some (m:Int)) none=l.drop m:=by
 have h1:¬ (m:Int)<0:=by omega
 simp only[cut,aS,h1,aaL,abK];by_cases h:m<=l.length
 .rw[ab0 h,aau (by simp)]
 .rw[acA (by omega),aa2 (WE _),aa2 (by omega)];simp
section
variable{F:List Fn}{w n cQ aO dY bQ cP bP er cR i:Nat}
def AJ(hf:F[i]?=some jc)(p:Pt)(m:Nat)(h:m<=p.n):run F w (n+1) i [.val p.v,.val (.int m)]=some (.tup [(p.tk m).v,(p.dp m).v],[]):=by
 refine bu hf rfl ?_;cases p with
 |keep k=>
  refine af (aR (by repeat array_get_dec) rfl rfl ?_);refine af (aD (by repeat array_get_dec) (λ_=>?_) λh=>absurd h (by decide));refine af (aU (by repeat array_get_dec) ⟨?_,rfl⟩);have:(k:Int) - m=((k - m:Nat):Int):=by simp only[Pt.n]at h;omega
  exact aab (λz=>Fl.ret (V.tup [V.tup [V.str eO,V.int m],V.tup [V.str eO,V.int z]])) this
 |put s=>
  have c1:eV (.str s) none (some (m:Int))=some (.str (s.take m)):=by rw[fk,uZ]
  have c2:eV (.str s) (some (m:Int)) none=some (.str (s.drop m)):=by rw[fk,qU]
  refine af (aR (by repeat array_get_dec) rfl rfl ?_);refine af (aD (by repeat array_get_dec) (λh=>absurd h (by decide)) λ_=>ay ?_);exact af (aU (by repeat array_get_dec) ⟨rfl,rfl⟩)
 |drop s=>
  have c1:eV (.str s) none (some (m:Int))=some (.str (s.take m)):=by rw[fk,uZ]
  have c2:eV (.str s) (some (m:Int)) none=some (.str (s.drop m)):=by rw[fk,qU]
  refine af (aR (by repeat array_get_dec) rfl rfl ?_);refine af (aD (by repeat array_get_dec) (λh=>absurd h (by decide)) λ_=>ay ?_);exact af (aU (by repeat array_get_dec) ⟨rfl,rfl⟩)
def sH(m:Nat)(p:Pt):(p.dp m).n=p.n - m:=by cases p<;>simp[Pt.dp,Pt.n]
def uo(hs:F[aO]?=some gh)(hp:F[cQ]?=some jc)(hf:F[i]?=some (lU cQ aO))(L:List V)(p:Pt)(m:Nat)(h:m<=p.n)(hn:p.n<=100000)(hL:L.length<=10000) :
  run F w (n+2) i [.bor (L++[p.v]),.val (.int m)]=some ((p.tk m).v,[L++if 0<p.n - m then [(p.dp m).v]else []]):=by
 refine bu hf rfl ?_;have c1:=λfr=>call2 (fr:=fr) (AJ (F:=F) (w:=w) (n:=n) hp p m h);have c2:=λfr=>b8 (fr:=fr) (ja (F:=F) (w:=w) (n:=n) hs (p.dp m) (by rw[sH];omega));have po:∀fr:Fr,gW .pop 0 [] fr (some (some (.bor (L++[p.v]))))=.ok p.v (fr.set 0 (some (.bor L))):=λfr=>Jq;have ap:∀fr:Fr,gW .append 0 [(p.dp m).v] fr (some (some (.bor L)))=.ok .bz (fr.set 0 (some (.bor (L++[(p.dp m).v])))):=λfr=>Jp (by omega);refine af (aR (by (repeat (first|array_get_dec|exact po _|exact c1 _))) rfl rfl ?_);refine af (aD (by (repeat (first|array_get_dec|exact c2 _))) (λh=>?_) λh=>?_)
 .have h':=aas h;rw[sH]at h';rw[JP (by omega)];refine af (fz (by (repeat (first|array_get_dec|exact ap _))) (ay ?_));exact af (aU (by repeat array_get_dec) ⟨rfl,rfl⟩)
 .have h':=aa3 h;rw[sH]at h';rw[Yu (by omega),aao];exact ay (af (aU (by repeat array_get_dec) ⟨rfl,rfl⟩))
noncomputable def mR:Pt->Pt->Option (List Pt)
 |l,.keep _=>some [l]
 |.keep _,g=>some [g]
 |.put s,.drop s'=>if s=s' then some []else none
 |_,_=>none
def JL(hf:F[i]?=some uY)(p q:Pt)(r:List Pt)(h:mR p q=some r):run F w (n+1) i [.val p.v,.val q.v]=some (.lst (r.map Pt.v),[]):=by
 refine bu hf rfl ?_;cases q with
 |keep k=>
  simp only[mR,abH]at h;subst h;refine af (aD (by repeat array_get_dec) (λ_=>?_) λh=>absurd h (by decide));exact af (aU (by repeat array_get_dec) ⟨rfl,rfl⟩)
 |put s=>
  cases p<;>simp[mR]at h
  subst h;refine af (aD (by repeat array_get_dec) (λh=>absurd h (by decide)) λ_=>ay ?_);refine af (aD (by repeat array_get_dec) (λ_=>?_) λh=>absurd h (by decide));exact af (aU (by repeat array_get_dec) ⟨rfl,rfl⟩)
 |drop s'=>
  cases p with
  |keep k=>
   simp only[mR,abH]at h;subst h;refine af (aD (by repeat array_get_dec) (λh=>absurd h (by decide)) λ_=>ay ?_);refine af (aD (by repeat array_get_dec) (λ_=>?_) λh=>absurd h (by decide));exact af (aU (by repeat array_get_dec) ⟨rfl,rfl⟩)
  |drop s=>simp[mR]at h
  |put s=>
   simp only[mR]at h;split at h
   .rename_i hs;subst hs;cases h;refine af (aD (by repeat array_get_dec) (λh=>absurd h (by decide)) λ_=>ay ?_);refine af (aD (by repeat array_get_dec) (λh=>absurd h (by decide)) λ_=>ay ?_);refine af (aD (by repeat array_get_dec) (λh=>?_) λ_=>ay ?_)
    .simp at h
    .exact af (aU (by repeat array_get_dec) ⟨rfl,rfl⟩)
   .cases h
def jd{l:List V}{v:V}:gf (.lst (l++[v])) (.int (-1))=some v:=by rw[IY,Cu];simp
def kK{l:List V}{v:V}:truthy (.lst (l++[v]))=true:=by simp
def G2{P:aP}{f i:Nat}{fr:Fr}{b v:V}{l l':List V}(e:fr[i]?=some (some (.own l)))(h:P f [.bor l,.val b]=some (v,[l'])):fW P f [.inl i,.inr b] fr=.ok v (fr.set i (some (.own l'))):=by
 have e1:lent fr i=some (.bor l):=by rw[Jm,e];rfl
 simp[fW,bZ,args,e1,h,back,e,Sl.with]
def jR{c:List Pt}(h:nJ c=true):∀p∈c,0<p.n:=λp hp=>by
 simp only[nJ,xg,abc]at h;have:=h.2 p hp;simp only[CC,bne_iff_ne,ne_eq]at this;omega
theorem je:∀{c:List Pt},(∀p∈c,0<p.n)->c.length<=tot c
 |[],_=>by simp[tot]
 |p :: c,h=>by
  have h1:=h p (by simp);have h2:=je (c:=c) λq hq=>h q (by simp[hq]);rw[cz,aaf];omega
def AK{p:Pt}{m:Nat}(h:m<=p.n):(p.tk m).aV++(p.dp m).aV=p.aV/\(p.tk m).n=m:=by
 cases p with
 |keep k=>simp only[Pt.n]at h;simp[Pt.tk,Pt.dp,Pt.aV,Pt.n,h]
 |put s=>simp only[Pt.n]at h;simp[Pt.tk,Pt.dp,Pt.aV,Pt.n,h,<-aad]
 |drop s=>simp only[Pt.n]at h;simp[Pt.tk,Pt.dp,Pt.aV,Pt.n,h,<-aad]
noncomputable def kL(m:Nat)(p:Pt):List Pt:=if 0<p.n - m then [p.dp m]else []
def zv{p:Pt}{m:Nat}(h:m<=p.n):p.aV=(p.tk m).aV++aV (kL m p):=by
 rw[<- (AK h).1]
 congr 1
 unfold kL;split
 .simp[aV]
 .rename_i hz;have:(p.dp m).aV.length=0:=by rw[wU,sH];omega
  rw[List.length_eq_zero_iff.mp this];rfl
def zw(m:Nat)(p:Pt):∀q∈kL m p,0<q.n:=λq hq=>by
 unfold kL at hq;split at hq
 .simp at hq;subst hq;rw[sH];omega
 .simp at hq
def JM(m:Nat)(p:Pt)(A:List Pt):((kL m p++A).map Pt.v).reverse=(A.map Pt.v).reverse++if 0<p.n - m then [(p.dp m).v]else []:=by
 unfold kL;split<;>simp
def oM(m:Nat)(p:Pt):tot (kL m p)=p.n - m:=by
 unfold kL;split
 .simp[tot,sH]
 .simp[tot];omega
def zx{m:Nat}{p:Pt}:eE (p.tk m)=eE p/\fM (p.tk m)=fM p:=by cases p<;>exact⟨rfl,rfl⟩
def NG{A B r:List At}(p q:Pt)(hp:eE p=false)(hq:fM q=false)(hn:p.n=q.n)(h:Th (p.aV++A) (q.aV++B) r):∃m r',mR p q=some m/\m.length<=1/\r=aV m++r'/\Th A B r':=by
 cases p with
 |drop s=>cases hp
 |keep k=>
  cases q with
  |put s=>cases hq
  |keep k'=>simp only[Pt.n]at hn;subst hn;obtain⟨r',rfl,h'⟩:=Th.Yp h;exact⟨[.keep k],r',rfl,by simp,by simp[aV,Pt.aV],h'⟩
  |drop s=>simp only[Pt.n]at hn;subst hn;obtain⟨r',rfl,h'⟩:=Th.Yq h;exact⟨[.drop s],r',rfl,by simp,by simp[aV,Pt.aV],h'⟩
 |put s=>
  cases q with
  |put s'=>cases hq
  |keep k'=>simp only[Pt.n]at hn;subst hn;obtain⟨r',rfl,h'⟩:=Th.Yr h;exact⟨[.put s],r',rfl,by simp,by simp[aV,Pt.aV],h'⟩
  |drop s'=>simp only[Pt.n]at hn;obtain⟨rfl,h'⟩:=Th.Uq hn h;exact⟨[],r,by simp[mR],by simp,by simp[aV],h'⟩
structure Tn(one other c:List Pt)(t:List Nat):Prop where
 NH:bg c=c
 fit:aX c t=true
 dn:aJ c t=aJ other (aJ one t)
 NI:told 0 c=(told 0 other).map (sub (told 0 one))
 Ze:told 0 (sw c)=(told 0 (sw one)).map (sub (told 0 (sw other)))
 cs:cst c<=cst one+cst other
 tt:tot c<=tot one+tot other
 ln:c.length<=tot c
 th:∃ps,c=bg ps/\Th (aV (bg one)) (aV (bg other)) (aV ps)
def Rn{one other ps:List Pt}{t:List Nat}(h1:aX one t=true)(h2:aX other (aJ one t)=true)(h:Th (aV (bg one)) (aV (bg other)) (aV ps)):Tn one other (bg ps) t:=by
 have f1:bh (aA (aV (bg one))) t=true:=by rw[<-gE,gA,<-gD];exact h1
 have f2:bh (aA (aV (bg other))) (dA (aV (bg one)) t)=true:=by rw[<-gE,gA,<-fF,iD,<-gD];exact h2
 have b:=h.back 0 0 [] rfl;rw[<-wV,<-wV,<-wV,<-fc,<-fc,<-fc]at b;have sf:∀c i,told i (sw (bg c))=told i (sw c):=λc i=>by
  have:=aab (told i) (JB (kJ c));rwa [eT,eT]at this
 refine⟨kJ _,?_,?_,?_,?_,?_,?_,je (jR (jb _)),ps,rfl,h⟩
 .rw[wQ,gD,gE];exact h.fit t f1 f2
 .rw[iD,fF,h.done t f1,<-fF,iD,<-fF,iD]
 .have:=h.told 0 0 [] rfl;rw[<-fc,<-fc,<-fc,eT,eT]at this;rw[eT];exact this
 .rw[sf,<-sf one,<-sf other];exact b
 .have:=h.cost;rw[<-oK,<-oK,<-oK,pX,pX]at this;rw[pX];exact this
 .have:=h.len;rw[jP,jP,jP,ir,ir]at this;rw[ir];exact this
section
variable(hs:F[aO]?=some gh)(hp:F[cQ]?=some jc)(ht:F[bQ]?=some (lU cQ aO))(hm:F[dY]?=some uY){one other:List Pt}{r:List At}{N:Nat}(hN:N<=5000)
noncomputable def gm(one other A B C:List Pt)(a:Option Sl):Fr:=[some (.val (aQ one)),some (.val (aQ other)),some (.own (A.map Pt.v).reverse),some (.own (B.map Pt.v).reverse),some (.own (C.map Pt.v)),a]
noncomputable def Ut(one other:List Pt)(r:List At)(N k:Nat)(fr:Fr):Prop:=∃A B C r' a,Th (aV A) (aV B) r'/\aV C++r'=r/\(∀p∈A,0<p.n)/\(∀p∈B,0<p.n)/\C.length+k<=N/\k=tot A+tot B/\vo a/\fr=gm one other A B C a
include hs hp ht hm hN
noncomputable def C1(aO dY bQ:Nat):Ss:=(.cons (.set 5 (.bi .min (.cons (.cl aO (.cons (.ix (.v 2) (.neg (.c (.int 1)))) .nil)) (.cons (.cl aO (.cons (.ix (.v 3) (.neg (.c (.int 1)))) .nil)) .nil)))) (.cons (.exp (.me .extend (.v 4) (.cons (.cl dY (.cons (.cl bQ (.cons (.v 2) (.cons (.v 5) .nil))) (.cons (.cl bQ (.cons (.v 3) (.cons (.v 5) .nil))) .nil))) .nil))) .nil))
noncomputable def wX(aO dY bQ:Nat):Ss:=.cons (.iff (.an (.v 3) (.cmp .eq (.ix (.ix (.v 3) (.neg (.c (.int 1)))) (.c (.int 0))) (.c (.str [112,117,116])))) (.cons (.exp (.me .append (.v 4) (.cons (.me .pop (.v 3) .nil) .nil))) .nil) (C1 aO dY bQ)) .nil
noncomputable def wY(one other:List Pt)(r:List At)(N t:Nat)(g:Fl)(fr:Fr):Prop:=g=.nx/\∃j,j<t/\Ut one other r N j fr
omit hs hp ht hm hN in
theorem C2{C:List Pt}(lC:C.length<=5000)(d:Pt)(fr:Fr):gW .append 4 [d.v] fr (some (some (.own (C.map Pt.v))))=.ok .bz (fr.set 4 (some (.own ((C++[d]).map Pt.v)))):=by
 rw[aad];exact lR (by simp;omega)
omit hs hp ht hm in
theorem wZ(A B C:List Pt)(s:List Nat)(r':List At)(a:Option Sl)(h:Th (aV A) (aV (.put s :: B)) r')(hn:CT (aV A)=true)(hC:aV C++r'=r)(hA:∀p∈A,0<p.n)(hB:∀p∈(.put s :: B),0<p.n)(hk:C.length+(tot A+tot (.put s :: B))<=N)(ha:vo a) :
  Wp (exs (run F w (n+2)) w (wX aO dY bQ) (gm one other A (.put s :: B) C a)) (wY one other r N (tot A+tot (.put s :: B))):=by
 have lC:C.length<=5000:=by omega
 rw[dG]at h;obtain⟨r2,e2,h2⟩:=Th.ps hn h;have hs1:=hB (.put s) (by simp);unfold gm;rw[Uz,aak];refine af (aD (gX (az rfl (ao rfl) kK) (by (repeat (first|array_get_dec|exact jd)))) (λ_=>?_) λh=>absurd h (by decide));refine af (fz (by (repeat (first|array_get_dec|exact oG|exact C2 lC _ _))) (ay (ay ?_)));refine⟨rfl,tot A+tot B,by rw[cz];omega,A,B,C++[.put s],r2,a,h2,?_,hA,λx hx=>hB x (by simp[hx]),?_,rfl,ha,rfl⟩
 .rw[<-hC,e2,jO];simp[aV,Pt.aV]
 .rw[cz]at hk;simp;omega
omit hN in
theorem NJ(A B C mm:List Pt)(p q:Pt)(m:Nat)(a:Option Sl)(mn:cH .min [.int p.n,.int q.n]=some (.int m))(hm1:m<=p.n)(hm2:m<=q.n)(lp:p.n<=5000)(lq:q.n<=5000)(lA:A.length<=5000)(lB:B.length<=5000)(lC:C.length+mm.length<=10000)(e1:mR (p.tk m) (q.tk m)=some mm)(ha:vo a)(Q:Fl->Fr->Prop)
  (hQ:Q .nx (gm one other (kL m p++A) (kL m q++B) (C++mm) (some (.val (.int m))))):Wp (exs (run F w (n+2)) w (C1 aO dY bQ) (gm one other (p :: A) (q :: B) C a)) Q:=by
 have z1:=λfr=>b8 (fr:=fr) (ja (F:=F) (w:=w) (n:=n+1) hs p (aaa lp (by decide)));have z2:=λfr=>b8 (fr:=fr) (ja (F:=F) (w:=w) (n:=n+1) hs q (aaa lq (by decide)));have t1:=uo (F:=F) (w:=w) (n:=n) hs hp ht (A.map Pt.v).reverse p m hm1 (by omega) (by simp;omega);have t2:=uo (F:=F) (w:=w) (n:=n) hs hp ht (B.map Pt.v).reverse q m hm2 (by omega) (by simp;omega);rw[<-JM]at t1 t2;have cm:=λfr=>call2 (fr:=fr) (JL (F:=F) (w:=w) (n:=n+1) hm _ _ mm e1);have ex:∀fr:Fr,gW .extend 4 [.lst (mm.map Pt.v)] fr (some (some (.own (C.map Pt.v))))=.ok .bz (fr.set 4 (some (.own ((C++mm).map Pt.v)))):=λfr=>by
  rw[aad];exact jN (by simp;omega)
 unfold gm at hQ ⊢;rw[Uz,aak,Uz,aak];refine af (aR (by (repeat (first|array_get_dec|exact jd|exact z1 _|exact z2 _))) rfl (eY rfl ha) ?_);exact af (fz (by (repeat (first|array_get_dec|exact G2 rfl t1|exact G2 rfl t2|exact cm _|exact ex _))) (ay hQ))
theorem FF(A B C:List Pt)(p q:Pt)(r':List At)(a:Option Sl)(hd:eE p=false)(hq:fM q=false)(h:Th (aV (p :: A)) (aV (q :: B)) r')(hC:aV C++r'=r)(hA:∀x∈p :: A,0<x.n)(hB:∀x∈q :: B,0<x.n)(hk:C.length+(tot (p :: A)+tot (q :: B))<=N)(ha:vo a) :
  Wp (exs (run F w (n+2)) w (wX aO dY bQ) (gm one other (p :: A) (q :: B) C a)) (wY one other r N (tot (p :: A)+tot (q :: B))):=by
 have hp0:=hA p (by simp);have Zf:=hB q (by simp);obtain⟨m,hm1,hm2,Zg⟩:∃m:Nat,m<=p.n/\m<=q.n/\(m=p.n\/m=q.n):=⟨min p.n q.n,by omega,by omega,by omega⟩
 have mn:cH .min [.int p.n,.int q.n]=some (.int m):=by
  rw[MR];split
  .congr 2;omega
  .congr 2;omega
 rw[cz,cz]at hk;have lA:=je (c:=A) λx hx=>hA x (by simp[hx]);have lB:=je (c:=B) λx hx=>hB x (by simp[hx]);have h3:Th ((p.tk m).aV++aV (kL m p++A)) ((q.tk m).aV++aV (kL m q++B)) r':=by
  rw[jO,jO,<-aaz,<-aaz,<-zv hm1,<-zv hm2,<-dG,<-dG];exact h
 obtain⟨mm,r2,e1,e2,e3,h4⟩:=NG (p.tk m) (q.tk m) (by rw[zx.1];exact hd) (by rw[zx.2];exact hq) (by rw[(AK hm1).2,(AK hm2).2]) h3;have fin:wY one other r N (tot (p :: A)+tot (q :: B)) .nx (gm one other (kL m p++A) (kL m q++B) (C++mm) (some (.val (.int m)))):=by
  refine⟨rfl,_,?_,_,_,_,r2,_,h4,?_,?_,?_,?_,rfl,.val,rfl⟩
  .rw[eU,eU,oM,oM,cz,cz];omega
  .rw[jO,aaz,<-e3];exact hC
  .intro x hx;rcases List.mem_append.mp hx with hx|hx
   .exact zw m p x hx
   .exact hA x (aag _ hx)
  .intro x hx;rcases List.mem_append.mp hx with hx|hx
   .exact zw m q x hx
   .exact hB x (aag _ hx)
  .rw[eU,eU,oM,oM,Yt];omega
 have st:=NJ (one:=one) (other:=other) (w:=w) (n:=n) hs hp ht hm A B C mm p q m a mn hm1 hm2 (by omega) (by omega) (by omega) (by omega) (by omega) e1 ha _ (show nx (run F w (n+2)) w .nil (wY one other r N (tot (p :: A)+tot (q :: B))) .nx _ from ay fin);unfold gm at st ⊢;rw[Uz,aak,Uz,aak]at st ⊢;cases q with
 |put s=>cases hq
 |keep k=>exact af (aD (gX (az rfl (ao rfl) kK) (by (repeat (first|array_get_dec|exact jd)))) (λh=>absurd h (by decide)) λ_=>st)
 |drop s=>exact af (aD (gX (az rfl (ao rfl) kK) (by (repeat (first|array_get_dec|exact jd)))) (λh=>absurd h (by decide)) λ_=>st)
omit hs hp ht hm hN in
theorem Uu{b r:List At}{x:At}(h:Th [] (x :: b) r):∃c,x=.p c:=by cases h with|p=>exact⟨_,rfl⟩
omit hs hp ht hm hN in
theorem Uv{a r:List At}{x:At}(h:Th (x :: a) [] r):∃c,x=.d c:=by cases h with|d=>exact⟨_,rfl⟩
theorem C3(A B C:List Pt)(r':List At)(a:Option Sl)(hne:A≠[]\/B≠[])(h:Th (aV A) (aV B) r')(hC:aV C++r'=r)(hA:∀p∈A,0<p.n)(hB:∀p∈B,0<p.n)(hk:C.length+(tot A+tot B)<=N)(ha:vo a) :
  Wp (exs (run F w (n+2)) w (wW aO dY bQ) (gm one other A B C a)) (wY one other r N (tot A+tot B)):=by
 cases A with
 |nil=>
  cases B with
  |nil=>exact absurd hne (by simp)
  |cons q B'=>
   refine af (aD (qI (az rfl (ao rfl) rfl)) (λh=>absurd h (by decide)) λ_=>?_);have hq:=hB q (by simp);cases q with
   |put s=>exact(wZ hN [] B' C s r' a h rfl hC hA hB hk ha).mono λg fr ⟨hg,hx⟩=>by subst hg;exact ay ⟨rfl,hx⟩
   |keep k=>
    rw[dG]at h;cases k with
    |zero=>exact absurd hq (aaB 0)
    |succ k=>obtain⟨c,e⟩:=Uu (x:=.k) h;cases e
   |drop s=>
    rw[dG]at h;cases s with
    |nil=>exact absurd hq (aaB 0)
    |cons c s=>obtain⟨c,e⟩:=Uu (x:=.d c) h;cases e
 |cons p A'=>
  have hp0:=hA p (by simp);cases hd:eE p with
  |true=>
   cases p with
   |keep k=>cases hd
   |put s=>cases hd
   |drop s=>
    have lC:C.length<=5000:=by omega
    rw[dG]at h;obtain⟨r2,e2,h2⟩:=Th.ds h;unfold gm;rw[Uz,aak];refine af (aD (gX (az rfl (ao rfl) kK) (by (repeat (first|array_get_dec|exact jd)))) (λ_=>?_) λh=>absurd h (by decide));refine af (fz (by (repeat (first|array_get_dec|exact oG|exact C2 lC _ _))) (ay (ay ?_)));refine⟨rfl,tot A'+tot B,by rw[cz];omega,A',B,C++[.drop s],r2,a,h2,?_,λx hx=>hA x (by simp[hx]),hB,?_,rfl,ha,rfl⟩
    .rw[<-hC,e2,jO];simp[aV,Pt.aV]
    .rw[cz]at hk;simp;omega
  |false=>
   have st:Wp (exs (run F w (n+2)) w (wX aO dY bQ) (gm one other (p :: A') B C a)) (wY one other r N (tot (p :: A')+tot B)):=by
    cases B with
    |nil=>
     exfalso;rw[dG]at h;cases p with
     |drop s=>cases hd
     |keep k=>cases k with|zero=>exact absurd hp0 (aaB 0)|succ k=>obtain⟨c,e⟩:=Uv (x:=.k) h;cases e
     |put s=>cases s with|nil=>exact absurd hp0 (aaB 0)|cons c s=>obtain⟨c,e⟩:=Uv (x:=.p c) h;cases e
    |cons q B'=>
     cases hq:fM q with
     |true=>
      have hnd:CT (aV (p :: A'))=true:=by
       rw[dG];cases p with
       |drop s=>cases hd
       |keep k=>cases k<;>first|exact absurd hp0 (aaB 0)|rfl
       |put s=>cases s<;>first|exact absurd hp0 (aaB 0)|rfl
      cases q with
      |keep k=>cases hq
      |drop s=>cases hq
      |put s=>exact wZ hN (p :: A') B' C s r' a h hnd hC hA hB hk ha
     |false=>exact FF hs hp ht hm hN A' B' C p q r' a hd hq h hC hA hB hk ha
   replace st:=st.mono (Q':=nx (run F w (n+2)) w .nil (wY one other r N (tot (p :: A')+tot B))) λg fr ⟨hg,hx⟩=>by subst hg;exact ay ⟨rfl,hx⟩
   unfold gm at st ⊢;rw[Uz,aak]at st ⊢;cases p with
   |drop s=>cases hd
   |keep k=>exact af (aD (gX (az rfl (ao rfl) kK) (by (repeat (first|array_get_dec|exact jd)))) (λh=>absurd h (by decide)) λ_=>st)
   |put s=>exact af (aD (gX (az rfl (ao rfl) kK) (by (repeat (first|array_get_dec|exact jd)))) (λh=>absurd h (by decide)) λ_=>st)
omit hN in
theorem FG(hst:F[bP]?=some iC)(hf:F[cP]?=some (nI bP))(hb:F[cR]?=some (mH aO))(ha:F[er]?=some (oJ aO))(C4:F[i]?=some (lT er cR cP aO dY bQ))(hw:5000<w)
  (one other:List Pt) (t:List Nat) (h1:aX one t=true) (h2:aX other (aJ one t)=true) (b1:tot one<=2000) (b2:tot other<=2000) (l1:one.length<=2000) (l2:other.length<=2000) :
  ∃c,run F w (n+3) i [.val (aQ one),.val (aQ other)]=some (aQ c,[])/\Tn one other c t:=by
 have f1:bh (aA (aV (bg one))) t=true:=by rw[<-gE,gA,<-gD];exact h1
 have f2:bh (aA (aV (bg other))) (dA (aV (bg one)) t)=true:=by rw[<-gE,gA,<-fF,iD,<-gD];exact h2
 obtain⟨r,hr⟩:=Th.all _ _ _ t (WE _) f1 f2;have e1:gM one=aF other:=by rw[<-qb h1,iF h2]
 have ne:cop .ne (.int (gM one)) (.int (aF other))=some false:=by rw[qL,e1];simp
 have c1:=λfr=>b8 (fr:=fr) (CB (F:=F) (w:=w) (n:=n) hs ha one (by omega) (by omega));have c2:=λfr=>b8 (fr:=fr) (AA (F:=F) (w:=w) (n:=n) hs hb other (by omega) (by omega));have c3:=λfr=>b8 (fr:=fr) (mJ (F:=F) (w:=w) (n:=n) hst hf one (by omega) (by omega));have c4:=λfr=>b8 (fr:=fr) (mJ (F:=F) (w:=w) (n:=n) hst hf other (by omega) (by omega));have t1:=ir one;have t2:=ir other;have g1:=je (jR (jb one));have g2:=je (jR (jb other));have m1:dQ ((bg one).map Pt.v).reverse=some (.lst ((bg one).map Pt.v).reverse):=bK (aZ (by simp;omega));have m2:dQ ((bg other).map Pt.v).reverse=some (.lst ((bg other).map Pt.v).reverse):=bK (aZ (by simp;omega));have key:Wp (exs (run F w (n+2)) w (lT er cR cP aO dY bQ).body (dZ (lT er cR cP aO dY bQ) [.val (aQ one),.val (aQ other)])) λg fr=>∃ps,aV ps=r/\g=.ret (aQ (bg ps))/\outs 2 fr=[]:=by
  refine af (aD (by (repeat (first|array_get_dec|exact c1 _|exact c2 _))) (λh=>absurd h (by decide)) λ_=>ay ?_);refine af (gg (l:=((bg one).map Pt.v).reverse) (mE (Cw (bB (aK rfl (ao rfl) aM) (c3 _)) rfl) m1) rfl rfl ?_);refine af (gg (l:=((bg other).map Pt.v).reverse) (mE (Cw (bB (aK rfl (ao rfl) aM) (c4 _)) rfl) m2) rfl rfl ?_);refine af (gg (l:=[]) (by repeat array_get_dec) rfl rfl ?_);refine af (GR (qF (Ut one other r (tot one+tot other)) (λk fr hI=>?_) w (tot one+tot other) _ (by omega) ⟨bg one,bg other,[],r,none,hr,rfl,jR (jb one),jR (jb other),by simp,by omega,.none,rfl⟩));obtain⟨A,B,C,r',a,hT,hC,hA,hB,hk,hkk,Uw,rfl⟩:=hI;by_cases hne:A≠[]\/B≠[]
  .have ht1:aN (run F w (n+2)) (.orr (.v 2) (.v 3)) (gm one other A B C a)=.ok true (gm one other A B C a):=by
    cases A with
    |cons p A=>unfold gm;rw[Uz,aak];exact Cv (az rfl (ao rfl) kK)
    |nil=>
     cases B with
     |nil=>simp at hne
     |cons q B=>unfold gm;rw[Uz,aak];exact fy (az rfl (ao rfl) rfl) (az rfl (ao rfl) kK)
   refine⟨true,_,ht1,?_⟩;dsimp only;rw[JP rfl];refine(C3 hs hp ht hm (N:=tot one+tot other) (by omega) A B C r' a hne hT hC hA hB (by omega) Uw).mono λg fr ⟨hg,hx⟩=>?_;subst hg hkk;exact hx
  .obtain⟨rfl,rfl⟩:A=[]/\B=[]:=by simpa using hne
   refine⟨false,_,fy (az rfl (ao rfl) rfl) (az rfl (ao rfl) rfl),?_⟩;dsimp only;rw[Yu (by decide)];cases hT;rw[aao]at hC;subst hC;have lC:=hr.len;rw[jP,jP,jP]at lC;have mt:toT (.lst (C.map Pt.v))=some (aQ C):=by rw[zk];exact lQ (aZ (by simp;omega))
   have c5:=λfr=>b8 (fr:=fr) (mJ (F:=F) (w:=w) (n:=n) hst hf C (by omega) (by omega));have sh:fK (gm one other [] [] C a)=[some (.val (aQ one)),some (.val (aQ other)),some (.val (.lst [])),some (.val (.lst [])),some (.val (.lst (C.map Pt.v))),a]:=by
    show _ :: _ :: _ :: _ :: _ :: [a.map Sl.dN]=_;rw[cy Uw];rfl
   refine af (aU (v:=aQ (bg C)) (ah:=[some (.val (aQ one)),some (.val (aQ other)),some (.val (.lst [])),some (.val (.lst [])),some (.val (.lst (C.map Pt.v))),a]) ?_ ⟨C,rfl,rfl,rfl⟩);rw[sh];exact bB (aK rfl (uW (ao rfl) mt) aM) (c5 _)
 obtain⟨g,fr,e,ps,hps,rfl,ho⟩:=key;refine⟨bg ps,?_,Rn h1 h2 (hps▸hr)⟩;rw[run_eq C4 rfl,e];simp only[Ja];rw[show outs (lT er cR cP aO dY bQ).np fr=[]from ho]
end
end
section
variable{F:List Fn}{w n i:Nat}
def FH(hf:F[i]?=some NF)(c:List Pt)(t:List Nat)(h1:tot c<=10000)(h2:t.length<=10000)(h:aX c t=true):run F w (n+1) i [.val (aQ c),.val (.str t)]=some (.str (aJ c t),[]):=by
 refine bu hf rfl ?_;refine af (aR (by repeat array_get_dec) rfl rfl ?_);refine af (aR (by repeat array_get_dec) rfl rfl ?_);refine af (ji (vs:=c.map Pt.v) (cE (cS rfl) rfl) ?_);have dl:=j9 c t;refine fO (e:=Pt.v) (λp l fr=>p++l=c/\aF p<=t.length/\aX l (t.drop (aF p))=true/\∃f a b,f++aJ l (t.drop (aF p))=aJ c t/\vo a/\vo b/\fr=[some (.val (aQ c)),some (.val (.str t)),some (.val (.int (aF p))),some (.val (.str f)),a,b]) (λp x l fr ⟨hpl,Ux,hfit,f,a,b,hd,ha,hb,hfr⟩=>?_) (λp fr ⟨hpl,Ux,hfit,f,a,b,hd,ha,hb,hfr⟩=>?_) c [] _ ⟨rfl,by simp[aF,tot],by simpa[aF,tot]using h,[],none,none,by simp[aF,tot],.none,.none,rfl⟩
 .subst hfr;have fh:(p++[x])++l=c:=by simpa using hpl
  have lf:=aab List.length hd;rw[Yt]at lf;cases x with
  |put s=>
   have e2:aF (p++[.put s])=aF p:=by rw[iE,kI];simp[aF,tot]
   have ad:=dU (a:=f) (b:=s) (by simp[aJ]at lf;omega);refine dB (iP rfl ha rfl hb) (af (aD (by repeat array_get_dec) (λ_=>?_) λh=>absurd h (by decide)));refine af (aR (by repeat array_get_dec) rfl rfl (ay (ay ?_)));rw[dw,e2];exact⟨fh,Ux,hfit,f++s,_,_,by simpa[aJ]using hd,.val,.val,rfl⟩
  |drop s=>
   simp only[aX,xg]at hfit;have e2:aF (p++[.drop s])=aF p+s.length:=by rw[iE,mQ];simp[aF,tot]
   have e3:((aF (p++[.drop s]):Nat):Int)=(aF p:Int)+(s.length:Nat):=by rw[e2];simp
   have hs:=hfit.1;rw[pre_take]at hs;have hs:=aas hs;have hl:s.length<=(t.drop (aF p)).length:=by have:=aab List.length hs;simp at this ⊢;omega
   have hl2:aF p+s.length<=t.length:=by simp at hl;omega
   have ln:cH .len [.str s]=some (.int (s.length:Nat)):=abh (by omega);have cu:eV (.str t) (some (aF p:Int)) (some ((aF p:Int)+(s.length:Nat)))=some (.str s):=by rw[fk,j8,hs]
   refine dB (iP rfl ha rfl hb) (af (aD (by repeat array_get_dec) (λh=>absurd h (by decide)) λ_=>?_));refine af (aD (by repeat array_get_dec) (λ_=>?_) λh=>absurd h (by decide));refine af (aD (by repeat array_get_dec) (λh=>?_) λ_=>ay ?_)
   .simp at h
   .refine af (aR (by repeat array_get_dec) rfl rfl (ay (ay (ay ?_))));rw[dw];refine⟨fh,by omega,?_,f,_,_,?_,.val,.val,by rw[e3];rfl⟩
    .rw[e2,<-aaC];exact hfit.2
    .rw[e2,<-aaC];simpa[aJ]using hd
  |keep k=>
   simp only[aX,xg,aay]at hfit;have e2:aF (p++[.keep k])=aF p+k:=by rw[iE,kH];simp[aF,tot]
   have e3:((aF (p++[.keep k]):Nat):Int)=(aF p:Int)+(k:Nat):=by rw[e2];simp
   have hl2:aF p+k<=t.length:=by have:=hfit.1;simp at this;omega
   have cu:eV (.str t) (some (aF p:Int)) (some ((aF p:Int)+(k:Nat)))=some (.str ((t.drop (aF p)).take k)):=by rw[fk,j8]
   have ad:=dU (a:=f) (b:=(t.drop (aF p)).take k) (by simp[aJ]at lf ⊢;omega);refine dB (iP rfl ha rfl hb) (af (aD (by repeat array_get_dec) (λh=>absurd h (by decide)) λ_=>?_));refine af (aD (by repeat array_get_dec) (λh=>absurd h (by decide)) λ_=>?_);refine af (aR (by repeat array_get_dec) rfl rfl ?_);refine af (aR (by repeat array_get_dec) rfl rfl (ay (ay (ay ?_))));rw[dw];refine⟨fh,by omega,?_,f++(t.drop (aF p)).take k,_,_,?_,.val,.val,by rw[e3];rfl⟩
   .rw[e2,<-aaC];exact hfit.2
   .rw[e2,<-aaC];simpa[aJ]using hd
 .subst hfr;simp at hpl;subst hpl;have hd':f=aJ p t:=by simpa[aJ]using hd
  subst hd';have e0:=iF h;have ln:cH .len [.str t]=some (.int (t.length:Nat)):=abh (by omega);have eq:cop .eq (.int (aF p)) (.int (t.length:Nat))=some true:=by rw[sC,e0];simp
  have sh:fK [some (.val (aQ p)),some (.val (.str t)),some (.val (.int (aF p))),some (.val (.str (aJ p t))),a,b]=[some (.val (aQ p)),some (.val (.str t)),some (.val (.int (aF p))),some (.val (.str (aJ p t))),a,b]:=by
   show _ :: _ :: _ :: _ :: a.map Sl.dN :: [b.map Sl.dN]=_;rw[cy ha,cy hb];rfl
  refine af (aU (v:=.str (aJ p t)) (ah:=[some (.val (aQ p)),some (.val (.str t)),some (.val (.int (aF p))),some (.val (.str (aJ p t))),a,b]) ?_ ⟨rfl,rfl⟩);rw[sh];exact kD (b:=true) (az rfl (by repeat array_get_dec) rfl) (λ_=>ao rfl) λh=>absurd h (by decide)
noncomputable def Ch:List Nat->List (List Pt)->Prop
 |_,[]=>True
 |t,c :: rs=>aX c t=true/\Ch (aJ c t) rs
noncomputable def dI(t:List Nat)(rs:List (List Pt)):List Nat:=rs.foldl (λs c=>aJ c s) t
noncomputable def dJ(rs:List (List Pt)):Nat:=(rs.map tot).sum
def JN(t:List Nat)(p q:List (List Pt)):dI t (p++q)=dI (dI t p) q:=by simp[dI]
theorem nM{t:List Nat}:∀{p q:List (List Pt)},Ch t (p++q)↔Ch t p/\Ch (dI t p) q
 |[],q=>⟨λh=>⟨trivial,h⟩,λh=>h.2⟩
 |c :: p,q=>by
  show(aX c t=true/\Ch (aJ c t) (p++q))↔(aX c t=true/\Ch (aJ c t) p)/\Ch (dI (aJ c t) p) q;rw[nM,and_assoc]
def WC{a b:List Pt}{t:List Nat}(fa:bg a=a)(fb:bg b=b)(ha:aX a t=true)(hb:aX b t=true)(h:told 0 a=told 0 b):a=b:=by rw[<-fa,<-fb];exact CW ha hb h
end
end Pv
namespace Pv
open Ev (deep big rep cut bL)
theorem qW:∀(a b:List At) (t:List Nat),dA (a++b) t=dA a (t.take (aA a).length)++dA b (t.drop (aA a).length)
 |[],b,t=>by simp[dA,aA]
 |.k :: a,b,t=>by
  simp only[aax,dA,aA,aaf,qW a b];cases t with
  |nil=>simp
  |cons c t=>simp
 |.d c :: a,b,t=>by
  simp only[aax,dA,aA,aaf,qW a b];cases t with
  |nil=>simp
  |cons c t=>simp
 |.p c :: a,b,t=>by simp only[aax,dA,aA,qW a b]
section
variable{c:List Pt}
def w9(c:List Pt):aF c=(aA (aV c)).length:=by rw[<-gE,mL]
end
end Pv
namespace Pv
open Ev (D bJ bx TY BI ME T E Es Eo It S Ss Fn big deep rep cut bL)
def Ro(n i:Nat):tA i (List.replicate n .k)=(List.range n).map λj=>Tq.at (i+j):=by
 have:=fc [.keep n] i;simp only[aV,Pt.aV,List.flatMap_cons,List.flatMap_nil,aao]at this;rw[<-this];simp[told,Pt.told]
abbrev Row:=List Nat×List Pt
noncomputable def aL(r:Row):V:=.tup [.str r.1,aQ r.2]
noncomputable def bH(rs:List Row):List (List Pt):=rs.map Prod.snd
def lV(a b:List Row):bH (a++b)=bH a++bH b:=aad
noncomputable def who(st:List V)(o:List Nat):Tq->V
 |.at i=>st.getD i .bz
 |.sg _=>.str o
noncomputable def jn(st:List V)(r:Row):List V:=(told 0 r.2).map (who st r.1)
noncomputable def ows(st:List V)(rs:List Row):List V:=rs.foldl jn st
def JQ(st:List V)(a b:List Row):ows st (a++b)=ows (ows st a) b:=by simp[ows]
def JR(st:List V)(r:Row):(jn st r).length=gM r.2:=by simp[jn,mP]
def JU{c:List Pt}{i:Nat}(h:Tq.at i∈told 0 c):i<aF c:=by
 rw[fc]at h;obtain⟨j,rfl,hj⟩:=(iG (aV c) 0 i).mp h;have:=(List.getElem?_eq_some_iff.mp hj).1;rw[<-w9]at this;omega
def JV{a c X:List Pt}{st:List V}{o:List Nat}(h:aF c=gM a)(hX:told 0 X=(told 0 c).map (sub (told 0 a))):jn st (o,X)=jn (jn st (o,a)) (o,c):=by
 unfold jn;rw[hX,aaD];refine List.map_congr_left λx hx=>?_;cases x with
 |sg d=>rfl
 |«at» i=>
  have hi:=JU hx;rw[h,<-mP a 0]at hi;simp[Function.comp,sub,who,List.getD,Uy hi]
theorem G4:∀{a:List At},cA a=0->a=List.replicate (aA a).length .k
 |[],_=>rfl
 |.k :: a,h=>by
  simp only[aA,aaf,Y5];rw[<-G4 (a:=a) (by simpa[cA]using h)]
 |.d c :: a,h=>by simp[cA]at h
 |.p c :: a,h=>by simp[cA]at h
def G5{c:List Pt}(h:cst c=0):aV c=List.replicate (aF c) .k:=by
 rw[w9];exact G4 (by rw[<-oK];exact h)
def NK{Y:List Pt}{u:List Nat}(h:aV Y=List.replicate u.length .k):aJ Y u=u:=by
 rw[fF,h];have:aJ [.keep u.length] u=u:=by simp[aJ]
 rw[fF]at this;simpa[aV,Pt.aV]using this
def AL{c:List Pt}{t:List Nat}(h:cst c=0)(f:aX c t=true):aJ c t=t:=NK (by rw[G5 h,iF f])
def C5{c:List Pt}{st:List V}{o:List Nat}(h:cst c=0)(hl:st.length=aF c):jn st (o,c)=st:=by
 unfold jn;rw[fc,G5 h,Ro,aaD];apply abJ;intro i;by_cases hi:i<st.length
 .rw[aat,abu (by omega)];simp[who,List.getD,Uy hi]
 .rw[aah (by simp;omega),aah (by omega)]
open Classical in
noncomputable def bF(t:List Nat)(a c:List Pt):List Pt:=if h:∃X,Tn a c X t then h.choose else []
def NL{t:List Nat}{a c X:List Pt}(T:Tn a c X t):bF t a c=X:=by
 have h:∃X,Tn a c X t:=⟨X,T⟩
 unfold bF;rw[dif_pos h];have S:=h.choose_spec;exact WC S.NH T.NH S.fit T.fit (S.NI.trans T.NI.symm)
noncomputable def kc(K:List Row)(r:Row)(X:List Pt):List Row:=if cst X=0 then K else K++[(r.1,X)]
noncomputable def stp(t:List Nat)(K:List Row)(r:Row):List Row:=match K.getLast? with
 |some q=>if q.1=r.1 then kc K.dropLast r (bF (dI t (bH K.dropLast)) q.2 r.2)else kc K r (bg r.2)
 |none=>kc K r (bg r.2)
def xj{t:List Nat}{K:List Row}{o:List Nat}{a c X:List Pt}(T:Tn a c X (dI t (bH K))):stp t (K++[(o,a)]) (o,c)=kc K (o,c) X:=by
 unfold stp;simp only[acT,List.getLast?_singleton,Option.some_or,List.dropLast_concat,aal];rw[NL T]
def nN{t:List Nat}{K:List Row}{r:Row}(h:∀K' q,K=K'++[q]->q.1≠r.1):stp t K r=kc K r (bg r.2):=by
 unfold stp;split
 .rename_i q hq;obtain⟨K',rfl⟩:=List.getLast?_eq_some_iff.mp hq;rw[Yu (h K' q rfl)]
 .rfl
noncomputable def dc(t:List Nat)(rs:List Row):List Row:=rs.foldl (stp t) []
def JX(t:List Nat)(a b:List Row):dc t (a++b)=b.foldl (stp t) (dc t a):=by simp[dc]
noncomputable def pC(K:List Row):Prop:=∀A a b B,K=A++a :: b :: B->a.1≠b.1
def pC.init{K:List Row}{x:Row}(h:pC (K++[x])):pC K:=λA a b B e=>h A a b (B++[x]) (by simp[e])
def pC.snoc{K:List Row}{x:Row}(h:pC K)(h2:∀K' q,K=K'++[q]->q.1≠x.1):pC (K++[x]):=by
 intro A a b B e;rcases abV B with rfl|⟨B',y,hy⟩
 .rw[show A++[a,b]=(A++[a])++[b]by simp]at e;obtain⟨e1,e2⟩:=acC e rfl;cases e2;exact h2 A a e1
 .rw[abW]at hy;subst hy;rw[show A++a :: b :: (B'++[y])=(A++a :: b :: B')++[y]by simp]at e;obtain⟨e1,e2⟩:=acC e rfl;exact h A a b B' e1
def pC.last{K:List Row}{x:Row}(h:pC (K++[x])):∀K' q,K=K'++[q]->q.1≠x.1:=λK' q e=>h K' q x [] (by simp[e])
structure Nm(t:List Nat)(rs K:List Row):Prop where
 ch:Ch t (bH K)
 tx:dI t (bH K)=dI t (bH rs)
 ow:∀st:List V,st.length=t.length->ows st K=ows st rs
 fm:∀q∈K,bg q.2=q.2/\0<cst q.2
 ad:pC K
 ln:K.length<=rs.length
 sb:∀q∈K,∃r∈rs,r.1=q.1
 tt:dJ (bH K)<=dJ (bH rs)
def Nm.nil(t:List Nat):Nm t [] []:=by
 refine⟨trivial,rfl,λ_ _=>rfl,?_,?_,WE _,?_,WE _⟩
 .intro q h;cases h
 .intro A a b B e;simp at e
 .intro q h;cases h
theorem sI{t:List Nat}:∀{rs:List Row}{st:List V},st.length=t.length->Ch t (bH rs)->(ows st rs).length=(dI t (bH rs)).length
 |[],st,h,_=>h
 |r :: rs,st,h,hc=>by
  have h1:aX r.2 t=true:=hc.1;exact sI (t:=aJ r.2 t) (by rw[JR,qb h1]) hc.2
def iH(K:List Row)(r:Row):dJ (bH (K++[r]))=dJ (bH K)+tot r.2:=by simp[dJ,bH]
def gG(t:List Nat)(K:List Row)(r:Row):dI t (bH (K++[r]))=aJ r.2 (dI t (bH K)):=by rw[lV,JN];rfl
def oN{t:List Nat}{K:List Row}{r:Row}:Ch t (bH (K++[r]))↔Ch t (bH K)/\aX r.2 (dI t (bH K))=true:=by
 rw[lV,nM];exact⟨λh=>⟨h.1,h.2.1⟩,λh=>⟨h.1,h.2,trivial⟩⟩
def kg(st:List V)(K:List Row)(r:Row):ows st (K++[r])=jn (ows st K) r:=by rw[JQ];rfl
section
variable{t:List Nat}{rs K:List Row}{o:List Nat}{c:List Pt}
def Nm.push{K':List Row}{X:List Pt}(hK:Ch t (bH K'))(hX:aX X (dI t (bH K'))=true)(tx:aJ X (dI t (bH K'))=dI t (bH (rs++[(o,c)])))
  (ow:∀st:List V,st.length=t.length->jn (ows st K') (o,X)=ows st (rs++[(o,c)])) (fm:∀q∈K',bg q.2=q.2/\0<cst q.2) (fX:bg X=X) (ad:pC K') (al:∀K2 q,K'=K2++[q]->q.1≠o)
  (ln:K'.length<=rs.length) (sb:∀q∈K',∃r∈rs,r.1=q.1) (tt:dJ (bH K')+tot X<=dJ (bH (rs++[(o,c)]))):Nm t (rs++[(o,c)]) (kc K' (o,c) X):=by
 have sb':∀q∈K',∃r∈rs++[(o,c)],r.1=q.1:=λq hq=>by
  obtain⟨r,hr,e⟩:=sb q hq;exact⟨r,aaO _ hr,e⟩
 unfold kc;split
 .rename_i h0;refine⟨hK,?_,λst hs=>?_,fm,ad,by simp;omega,sb',by omega⟩
  .rw[<-tx,AL h0 hX]
  .rw[<-ow st hs,C5 h0 (by rw[sI hs hK,iF hX])]
 .rename_i h0;refine⟨oN.mpr ⟨hK,hX⟩,by rw[gG];exact tx,λst hs=>by rw[kg];exact ow st hs,λq hq=>?_,ad.snoc al,by simp;omega,λq hq=>?_,by rw[iH];exact tt⟩
  .rcases List.mem_append.mp hq with hq|hq
   .exact fm q hq
   .rw[abj]at hq;subst hq;exact⟨fX,by simp only;omega⟩
  .rcases List.mem_append.mp hq with hq|hq
   .exact sb' q hq
   .rw[abj]at hq;subst hq;exact⟨(o,c),by simp,rfl⟩
def Nm.step(N:Nm t rs K)(hf:aX c (dI t (bH rs))=true)(hT:∀K' a,K=K'++[(o,a)]->∃X,Tn a c X (dI t (bH K'))):Nm t (rs++[(o,c)]) (stp t K (o,c)):=by
 by_cases h:∃K' a,K=K'++[(o,a)]
 .obtain⟨K',a,rfl⟩:=h;obtain⟨X,T⟩:=hT K' a rfl;rw[xj T];obtain⟨c1,c2⟩:=oN.mp N.ch;have e1:=N.tx;rw[gG]at e1;have tt:=N.tt;rw[iH]at tt;have t2:=T.tt;refine Nm.push c1 T.fit ?_ (λst hs=>?_) (λq hq=>N.fm q (aaO _ hq)) T.NH N.ad.init (λK2 q e=>N.ad.last K2 q e) (by have:=N.ln;simp at this;omega) (λq hq=>N.sb q (aaO _ hq)) (by rw[iH];simp only at tt ⊢;omega)
  .rw[T.dn,gG,<-e1]
  .rw[kg,<-N.ow st hs,kg];refine JV ?_ T.NI;rw[<-iF hf,<-e1];exact qb c2
 .have hn:∀K' q,K=K'++[q]->q.1≠o:=λK' q e z=>h ⟨K',q.2,by rw[e];subst z;rfl⟩;rw[nN hn];refine Nm.push N.ch (by rw[wQ,N.tx];exact hf) ?_ (λst hs=>?_) N.fm (kJ c) N.ad hn N.ln N.sb (by rw[iH,ir];have:=N.tt;simp only;omega)
  .rw[iD,N.tx,gG]
  .rw[kg,N.ow st hs];unfold jn;rw[eT]
end
end Pv
namespace Pv
end Pv
namespace Pv
open Ev (D bJ bx TY BI ME T E Es Eo It S Ss Fn big deep rep cut bL)
end Pv
namespace Pv
open Ev (D bJ bx TY BI ME T E Es Eo It S Ss Fn big deep b2i rep bT dO bL aS cut bE cY slots)
noncomputable def mk(x:List Nat)(l:List Pt)(k:Nat)(f:List Nat):Option (List Nat):=if k<=x.length/\aX l (x.drop k)=true then some (f++aJ l (x.drop k))else none
noncomputable def uw:S:=.iff (.orr (.nt (.gx (.v 0) [.tuple])) (.cmp .gt (.bi .len (.cons (.v 0) .nil)) (.c (.int 12)))) (.cons (.ret (.c (.bl false))) .nil) .nil
noncomputable def uy(nO:Nat):S:=.ret (.bi .all (.cons (.comp (.cl nO (.cons (.v 1) .nil)) (.one 1) (.seq (.v 0)) .no) .nil))
noncomputable def gY(nO:Nat):Fn:=⟨1,2,(.cons uw (.cons (uy nO) .nil))⟩
noncomputable def xY:S:=.iff (.orr (.nt (.gx (.v 0) [.tuple])) (.cmp .ne (.bi .len (.cons (.v 0) .nil)) (.c (.int 2)))) (.cons (.ret (.c (.bl false))) .nil) .nil
noncomputable def kY(nP:Nat):S:=.iff (.cmp .eq (.ix (.v 0) (.c (.int 0))) (.c (.str [107,101,101,112]))) (.cons (.ret (.cl nP (.cons (.ix (.v 0) (.c (.int 1))) .nil))) .nil) .nil
noncomputable def kZ(nQ:Nat):S:=.ret (.an (.cmp .isin (.ix (.v 0) (.c (.int 0))) (.tup (.cons (.c (.str [112,117,116])) (.cons (.c (.str [100,114,111,112])) .nil)))) (.cl nQ (.cons (.ix (.v 0) (.c (.int 1))) .nil)))
noncomputable def dj(nP:Nat)(nQ:Nat):Fn:=⟨1,1,(.cons xY (.cons (kY nP) (.cons (kZ nQ) .nil)))⟩
noncomputable def xZ:S:=.iff (.orr (.gx (.v 0) [.bool]) (.nt (.gx (.v 0) [.int]))) (.cons (.ret (.c (.bl false))) .nil) .nil
noncomputable def x6:S:=.ret (.ch .le .le (.c (.int 1)) (.v 0) (.c (.int 99)))
noncomputable def fC:Fn:=⟨1,1,(.cons xZ (.cons x6 .nil))⟩
noncomputable def x8:S:=.iff (.orr (.nt (.gx (.v 0) [.str])) (.nt (.ch .le .le (.c (.int 1)) (.bi .len (.cons (.v 0) .nil)) (.c (.int 8))))) (.cons (.ret (.c (.bl false))) .nil) .nil
noncomputable def x9:S:=.ret (.bi .all (.cons (.comp (.cmp .isin (.v 1) (.c (.str [97,98,99,100,101,102,103,104,105,106,107,108,109,110,111,112,113,114,115,116,117,118,119,120,121,122,32]))) (.one 1) (.seq (.v 0)) .no) .nil))
noncomputable def fD:Fn:=⟨1,2,(.cons x8 (.cons x9 .nil))⟩
noncomputable def qX:S:=.ret (.me .join (.c (.str [47])) (.cons (.comp (.bin .add (.gP [(.str [107,101,101,112],.str [61]),(.str [112,117,116],.str [43]),(.str [100,114,111,112],.str [45])] (.v 1)) (.bi .gO (.cons (.v 2) .nil))) (.many [1,2]) (.seq (.v 0)) .no) .nil))
noncomputable def jw:Fn:=⟨1,3,(.cons qX .nil)⟩
noncomputable def uz(eB:Nat):S:=.ret (.me .join (.c (.str [])) (.cons (.comp (.bin .add (.cl eB (.cons (.v 1) .nil)) (.c (.str [10]))) (.one 1) (.seq (.v 0)) .no) .nil))
noncomputable def yc(eB:Nat):Fn:=⟨1,2,(.cons (uz eB) .nil)⟩
noncomputable def qY:S:=.iff (.cmp .eq (.v 0) (.c (.str []))) (.cons (.ret (.tup .nil)) .nil) .nil
noncomputable def qZ(lu:Nat):S:=.set 1 (.jA (.comp (.cl lu (.cons (.v 2) .nil)) (.one 2) (.seq (.gp (.jV (.v 0) (.c (.str [47]))))) .no))
noncomputable def q8(ly:Nat):S:=.iff (.nt (.cl ly (.cons (.v 1) .nil))) (.cons (.eS 4) .nil) .nil
noncomputable def q9:S:=.ret (.v 1)
noncomputable def jx(lu:Nat)(ly:Nat):Fn:=⟨1,3,(.cons qY (.cons (qZ lu) (.cons (q8 ly) (.cons q9 .nil))))⟩
noncomputable def uA:S:=.iff (.cmp .fq (.sl (.v 0) .no (.yes (.c (.int 1)))) (.c (.str [61,43,45]))) (.cons (.eS 4) .nil) .nil
noncomputable def uB:S:=.set 1 (.gP [(.str [61],.str [107,101,101,112]),(.str [43],.str [112,117,116]),(.str [45],.str [100,114,111,112])] (.sl (.v 0) .no (.yes (.c (.int 1)))))
noncomputable def uC(jy:Nat):S:=.iff (.cmp .eq (.v 1) (.c (.str [107,101,101,112]))) (.cons (.ret (.tup (.cons (.v 1) (.cons (.cl jy (.cons (.sl (.v 0) (.yes (.c (.int 1))) .no) .nil)) .nil)))) .nil) .nil
noncomputable def uD:S:=.ret (.tup (.cons (.v 1) (.cons (.sl (.v 0) (.yes (.c (.int 1))) .no) .nil)))
noncomputable def jl(jy:Nat):Fn:=⟨1,2,(.cons uA (.cons uB (.cons (uC jy) (.cons uD .nil))))⟩
noncomputable def ri:S:=.iff (.cmp .fq (.v 0) (.comp (.bi .gO (.cons (.v 1) .nil)) (.one 1) (.gI (.cons (.c (.int 1)) (.cons (.bin .add (.c (.int 99)) (.c (.int 1))) .nil))) .no)) (.cons (.eS 4) .nil) .nil
noncomputable def rj:S:=.ret (.bi .mj (.cons (.v 0) .nil))
noncomputable def gi:Fn:=⟨1,2,(.cons ri (.cons rj .nil))⟩
noncomputable def xm:S:=.set 1 (.gp (.jV (.v 0) (.c (.str [10]))))
noncomputable def xo:S:=.iff (.cmp .ne (.me .pop (.v 1) .nil) (.c (.str []))) (.cons (.eS 4) .nil) .nil
noncomputable def xq:S:=.ret (.v 1)
noncomputable def rq:Fn:=⟨1,2,(.cons xm (.cons xo (.cons xq .nil)))⟩
def AM{P:aP}{k:Bool}{fr ah aq:Fr}{o p:bx}{a b c:E}{x y z:V}{b1 b2:Bool}(h1:ev P (kf a (bM b)) a fr=.ok x ah)(h2:ev P (kf b (bM c)) b ah=.ok y aq)(h3:cop o x y=some b1)(h4:b1=true->ev P true c aq=.ok z aq/\cop p y z=some b2)(h5:b1=false->b2=false):ev P k (.ch o p a b c) fr=.ok (.bl b2) aq:=by
 rw[Q6,h1,ak,h2,ak,h3];show(R.ok b1 aq).bind _=_;rw[ak];cases b1 with
 |false=>rw[h5 rfl];rfl
 |true=>obtain⟨e1,e2⟩:=h4 rfl;rw[JP rfl,e1,ak,e2];rfl
noncomputable def xr(n:Nat):List Nat:=(Nat.toDigits 10 n).map Char.toNat
def FL(n:Nat):Ev.gj (n:Int)=xr n:=by
 show((toString (n:Int)).toList).map Char.toNat=_;rw[show toString (n:Int)=String.ofList (Nat.toDigits 10 n)from rfl,String.toList_ofList];rfl
def JY:((List.range 100).all λn=>decide (1<=(xr n).length)&&decide ((xr n).length<=2)&&(xr n).all Ev.pK&&(Ev.pL (xr n)==some (n:Int)))=true:=by decide +kernel
structure Dg(n:Nat):Prop where
 lo:1<=(Ev.gj (n:Int)).length
 hi:(Ev.gj (n:Int)).length<=2
 sg:∀x∈Ev.gj (n:Int),48<=x/\x<=57
 nm:Ev.pL (Ev.gj (n:Int))=some (n:Int)
def dg{n:Nat}(h:n<=99):Dg n:=by
 have:=List.all_eq_true.mp JY n (by simp;omega);rw[<-FL]at this;simp only[xg,aay,acR,abc,Ev.pK]at this;exact⟨this.1.1.1,this.1.1.2,this.1.2,this.2⟩
theorem xu{c:Nat}:∀{s:List Nat},c∉s->Ev.bC c s=[s]
 |[],_=>rfl
 |x :: s,h=>by
  simp only[aaY,not_or]at h;simp only[Ev.bC,Yu (show ¬ x=c from λz=>h.1 z.symm),xu h.2]
theorem nS{c:Nat}{r:List Nat}:∀{s:List Nat},c∉s->Ev.bC c (s++c :: r)=s :: Ev.bC c r
 |[],_=>by simp[Ev.bC]
 |x :: s,h=>by
  simp only[aaY,not_or]at h;simp only[aax,Ev.bC,Yu (show ¬ x=c from λz=>h.1 z.symm),nS h.2]
theorem rA{c:Nat}:∀{ps:List (List Nat)},ps≠[]->(∀p∈ps,c∉p)->Ev.bC c (bE [c] ps)=ps
 |[],h,_=>absurd rfl h
 |[s],_,h=>by simp only[bE];exact xu (h s (by simp))
 |s :: t :: r,_,h=>by
  simp only[bE];rw[aaz,abp,nS (h s (by simp)),rA (by simp) λp hp=>h p (by simp[hp])]
theorem pD{c:Nat}:∀{ps:List (List Nat)},(∀p∈ps,c∉p)->Ev.bC c (ps.map λp=>p++[c]).flatten=ps++[[]]
 |[],_=>rfl
 |s :: r,h=>by
  simp only[Uz,aaI];rw[aaz,abp,nS (h s (by simp)),pD λp hp=>h p (by simp[hp])];rfl
noncomputable def sgn:List Nat:=[97,98,99,100,101,102,103,104,105,106,107,108,109,110,111,112,113,114,115,116,117,118,119,120,121,122,32]
noncomputable def WS(s:List Nat):Prop:=1<=s.length/\s.length<=8/\∀x∈s,sgn.contains x=true
noncomputable def WP:Pt->Prop
 |.keep n=>1<=n/\n<=99
 |.put s=>WS s
 |.drop s=>WS s
structure Wide(c:List Pt):Prop where
 len:c.length<=12
 pt:∀p∈c,WP p
noncomputable def Pt.t:Pt->List Nat
 |.keep n=>61 :: Ev.gj n
 |.put s=>43 :: s
 |.drop s=>45 :: s
noncomputable def ct(c:List Pt):List Nat:=bE [47] (c.map Pt.t)
def C6{x:Nat}(h:sgn.contains x=true):x≠47/\x≠10:=by
 constructor <;> (intro e;subst e;revert h;decide)
def sJ{p:Pt}(h:WP p):1<=p.t.length/\p.t.length<=9/\∀x∈p.t,x≠47/\x≠10:=by
 cases p with
 |keep n=>
  have d:=dg h.2;have d1:=d.hi;refine⟨by simp[Pt.t],by simp[Pt.t];omega,λx hx=>?_⟩;rcases List.mem_cons.mp hx with rfl|hx
  .decide
  .have:=d.sg x hx;omega
 |put s=>
  obtain⟨h1,h2,h3⟩:=h;refine⟨by simp[Pt.t],by simp[Pt.t];omega,λx hx=>?_⟩;rcases List.mem_cons.mp hx with rfl|hx
  .decide
  .exact C6 (h3 x hx)
 |drop s=>
  obtain⟨h1,h2,h3⟩:=h;refine⟨by simp[Pt.t],by simp[Pt.t];omega,λx hx=>?_⟩;rcases List.mem_cons.mp hx with rfl|hx
  .decide
  .exact C6 (h3 x hx)
theorem xw{x:Nat}{s:List Nat}:∀{l:List (List Nat)},x∈bE s l->x∈s\/∃p∈l,x∈p
 |[],h=>by simp[bE]at h
 |[p],h=>.inr ⟨p,by simp,h⟩
 |p :: q :: r,h=>by
  simp only[bE,List.mem_append]at h;rcases h with (h|h)|h
  .exact .inr ⟨p,by simp,h⟩
  .exact .inl h
  .rcases xw h with h|⟨t,h1,h2⟩
   .exact .inl h
   .exact .inr ⟨t,by simp[h1],h2⟩
theorem join_le{s:List Nat}{b:Nat}:∀{l:List (List Nat)},(∀p∈l,p.length<=b)->(bE s l).length<=l.length*(b+s.length)
 |[],_=>by simp[bE]
 |[p],h=>by have:=h p (by simp);simp[bE];omega
 |p :: q :: r,h=>by
  have h1:=h p (by simp);have h2:=join_le (s:=s) (l:=q :: r) λx hx=>h x (by simp[hx]);simp only[bE,Yt];rw[aaf,abY];omega
def Rq{c:List Pt}(h:Wide c):10∉ct c:=λz=>by
 rcases xw z with z|⟨p,h1,h2⟩
 .simp at z
 .obtain⟨q,h3,rfl⟩:=List.mem_map.mp h1;exact((sJ (h.pt q h3)).2.2 10 h2).2 rfl
def nT{c:List Pt}(h:Wide c):(ct c).length<=120:=by
 have h1:(ct c).length<=(c.map Pt.t).length*(9+[47].length):=join_le λp hp=>by
  obtain⟨q,h3,rfl⟩:=List.mem_map.mp hp;exact(sJ (h.pt q h3)).2.1
 have h2:=h.len;simp at h1;omega
def FO{c:List Pt}(h:Wide c)(h0:c≠[]):Ev.bC 47 (ct c)=c.map Pt.t:=rA (by simpa using h0) λp hp z=>by
 obtain⟨q,h3,rfl⟩:=List.mem_map.mp hp;exact((sJ (h.pt q h3)).2.2 47 z).1 rfl
def NO{c:List Pt}(h:Wide c):ct c=[]↔c=[]:=by
 constructor
 .intro e;cases c with
  |nil=>rfl
  |cons p c=>
   have h1:=(sJ (h.pt p (by simp))).1;cases c with
   |nil=>simp only[ct,Uz,abZ,bE]at e;rw[e]at h1;cases h1
   |cons q c=>
    have:=aab List.length e;simp[ct,bE]at this
 .rintro rfl;rfl
def Rt{s:List Nat}{l:List (List Nat)}{b:Nat}(hb:∀p∈l,p.length<=b)(h:l.length*(b+s.length)<=100000):dz .join (.str s) [.lst (l.map V.str)]=some (.str (bE s l)):=by
 have hs':strsOf (l.map V.str)=some l:=by simpa using mD (λx=>x) l
 have h1:∀{l:List (List Nat)},(∀p∈l,p.length<=b)->(l.map (·.length)).sum<=l.length*b:=λ{l}=>by
  induction l with
  |nil=>simp
  |cons p l ih=>
   intro h;have h2:=ih λq hq=>h q (by simp[hq]);have h3:=h p (by simp);simp only[Uz,acV,aaf,abY];omega
 have h2:(l.map (·.length)).sum+l.length*s.length<=big:=aZ (by have:=h1 hb;rw[Nat.mul_add]at h;omega)
 delta dz;dsimp only;simp only[o7,hs',Option.bind];rw[JP h2]
theorem xx(t:List Nat):∀l:List (List Nat),mem (.str t) (l.map V.str)=some (l.contains t)
 |[]=>rfl
 |x :: l=>by
  rw[Uz,mem_cons,xx t l,sj];show some (decide (x=t) ||l.contains t)=_;rw[ac7]
  congr 2
  by_cases h:x=t
  .simp[h]
  .rw[aac h];simp;exact λz=>h z.symm
section
variable{F:List Fn}{w n i:Nat}
def yd(h:F[i]?=some fC){k:Nat}(h1:1<=k)(h2:k<=99):run F w (n+1) i [.val (.int k)]=some (.bl true,[]):=by
 refine bu h rfl (af (aD (b:=false) (fy (az rfl (jh (ao rfl) rfl) rfl) (gb (b:=true) (az rfl (jh (ao rfl) rfl) rfl))) (λh=>absurd h (by decide)) λ_=>ay ?_));exact af (aU (AM (b1:=true) (b2:=true) (z:=.int 99) (aC rfl) (ao rfl) (by rw[mF,aaj (by omega)]) (λ_=>⟨aC rfl,by rw[mF,aaj (by omega)]⟩) (λh=>absurd h (by decide))) ⟨rfl,rfl⟩)
def pF(h:F[i]?=some fD){s:List Nat}(hs:WS s):run F w (n+1) i [.val (.str s)]=some (.bl true,[]):=by
 obtain⟨h1,h2,h3⟩:=hs;refine bu h rfl (af (aD (b:=false) (fy (gb (b:=true) (az rfl (jh (ao rfl) rfl) rfl)) (gb (b:=true) (az rfl (AM (b1:=true) (b2:=true) (z:=.int 8) (aC rfl) (dh (au (ao rfl) aE) (abh (by omega))) (by rw[mF,aaj (by omega)]) (λ_=>⟨aC rfl,by rw[mF,aaj (by omega)]⟩) (λh=>absurd h (by decide))) rfl))) (λh=>absurd h (by decide)) λ_=>ay ?_));have hc:bR (dX (run F w n) (.cmp .isin (.v 1) (.c (.str sgn))) (.one 1) .no [some (.val (.str s)),none]) (s.map λc=>.str [c])=some (s.map λc=>.bl (sgn.contains c)):=
  cD _ _ _ λc _=>dD rfl (aT (ao rfl) (aC rfl) pV)
 have ha:cH .all [.lst (s.map λc=>.bl (sgn.contains c))]=some (.bl true):=by
  rw[sy,kT];show some (V.bl _)=_;rw[List.all_eq_true.mpr];intro x hx;obtain⟨c,hc,rfl⟩:=List.mem_map.mp hx;exact h3 c hc
 exact af (aU (dh (au (di (cE (cS rfl) rfl) rfl hc (bK (aZ (by simp;omega)))) aE) ha) ⟨rfl,rfl⟩)
def ye{bX bY:Nat}(hk:F[bX]?=some fC)(hs:F[bY]?=some fD)(h:F[i]?=some (dj bX bY)){p:Pt}(hp:WP p):run F w (n+2) i [.val p.v]=some (.bl true,[]):=by
 refine bu h rfl ?_;have hd:∃a b,p.v=.tup [a,b]:=by cases p<;>exact⟨_,_,rfl⟩
 have st:∀a b,Wp (exs (run F w (n+1)) w (.cons (kY bX) (.cons (kZ bY) .nil)) [some (.val (.tup [a,b]))]) (λg fr=>g=.ret (.bl true)/\outs 1 fr=[])->Wp (exs (run F w (n+1)) w (dj bX bY).body (dZ (dj bX bY) [.val (.tup [a,b])])) λg fr=>g=.ret (.bl true)/\outs (dj bX bY).np fr=[]:=λa b q=>
  af (aD (b:=false) (fy (gb (b:=true) (az rfl (jh (ao rfl) rfl) rfl)) (az rfl (aT (dh (au (ao rfl) aE) oE) (aC rfl) qL) rfl)) (λh=>absurd h (by decide)) λ_=>ay q)
 cases p with
 |keep k=>
  exact st _ _ (af (aD (b:=true) (az rfl (aT (b9 (ao rfl) (aC rfl) rfl) (aC rfl) eL) rfl) (λ_=>af (aU (bB (aK rfl (b9 (ao rfl) (aC rfl) rfl) aM) (b8 (yd hk hp.1 hp.2))) ⟨rfl,rfl⟩)) λh=>absurd h (by decide)))
 |put s=>
  exact st _ _ (af (aD (b:=false) (az rfl (aT (b9 (ao rfl) (aC rfl) rfl) (aC rfl) eL) rfl) (λh=>absurd h (by decide)) λ_=>ay (af (aU (qH (aT (b9 (ao rfl) (aC rfl) rfl) (cZ (au (aC rfl) (au (aC rfl) aE)) fL) rfl) (bB (aK rfl (b9 (ao rfl) (aC rfl) rfl) aM) (b8 (pF hs hp)))) ⟨rfl,rfl⟩))))
 |drop s=>
  exact st _ _ (af (aD (b:=false) (az rfl (aT (b9 (ao rfl) (aC rfl) rfl) (aC rfl) eL) rfl) (λh=>absurd h (by decide)) λ_=>ay (af (aU (qH (aT (b9 (ao rfl) (aC rfl) rfl) (cZ (au (aC rfl) (au (aC rfl) aE)) fL) rfl) (bB (aK rfl (b9 (ao rfl) (aC rfl) rfl) aM) (b8 (pF hs hp)))) ⟨rfl,rfl⟩))))
def uE{bX bY dR:Nat}(hk:F[bX]?=some fC)(hs:F[bY]?=some fD)(hp:F[dR]?=some (dj bX bY))(h:F[i]?=some (gY dR)){c:List Pt}(hc:Wide c):run F w (n+3) i [.val (aQ c)]=some (.bl true,[]):=by
 have hl:=hc.len;have kh:bR (dX (run F w (n+2)) (.cl dR (.cons (.v 1) .nil)) (.one 1) .no [some (.val (aQ c)),none]) (c.map Pt.v)=some (c.map λ_=>.bl true):=
  cD _ _ _ λp h'=>dD rfl (bB (aK rfl (ao rfl) aM) (b8 (ye hk hs hp (hc.pt p h'))))
 have ha:cH .all [.lst (c.map λ_=>.bl true)]=some (.bl true):=by
  rw[sy,kT (λ_=>true) c];show some (V.bl _)=_;rw[List.all_eq_true.mpr];intro x hx;obtain⟨_,_,rfl⟩:=List.mem_map.mp hx;rfl
 refine bu h rfl (af (aD (b:=false) (fy (gb (b:=true) (az rfl (jh (ao rfl) rfl) rfl)) (az rfl (aT (dh (au (ao rfl) aE) oE) (aC rfl) nG) (by show decide _=false;exact aac (by simp;omega)))) (λh=>absurd h (by decide)) λ_=>ay ?_));exact af (aU (dh (au (di (cE (cS rfl) rfl) rfl kh (bK (aZ (by simp;omega)))) aE) ha) ⟨rfl,rfl⟩)
def C7{k:Nat}(h:k<=99):cH .gO [.int (k:Int)]=some (.str (Ev.gj k)):=by
 delta cH;dsimp only;rw[JP (by omega)]
def kM(h:F[i]?=some jw){c:List Pt}(hc:Wide c):run F w (n+1) i [.val (aQ c)]=some (.str (ct c),[]):=by
 have hl:=hc.len;have kh:bR (dX (run F w n) (.bin .add (.gP [(.str [107,101,101,112],.str [61]),(.str [112,117,116],.str [43]),(.str [100,114,111,112],.str [45])] (.v 1)) (.bi .gO (.cons (.v 2) .nil))) (.many [1,2]) .no [some (.val (aQ c)),none,none]) (c.map Pt.v)=some (c.map λp=>.str p.t):=
  cD _ _ _ λp h'=>by
   have hp:=hc.pt p h';have ht:=(sJ hp).2.1;cases p with
   |keep k=>exact dD rfl (aW (j7 (ao rfl) rfl) (dh (au (ao rfl) aE) (C7 hp.2)) (dU (by simp[Pt.t]at ht ⊢;omega)))
   |put s=>exact dD rfl (aW (j7 (ao rfl) rfl) (dh (au (ao rfl) aE) rfl) (dU (by simp[Pt.t]at ht ⊢;omega)))
   |drop s=>exact dD rfl (aW (j7 (ao rfl) rfl) (dh (au (ao rfl) aE) rfl) (dU (by simp[Pt.t]at ht ⊢;omega)))
 have hj:dz .join (.str [47]) [.lst (c.map λp=>V.str p.t)]=some (.str (ct c)):=by
  have:=Rt (s:=[47]) (l:=c.map Pt.t) (b:=9) (λp hp=>by
   obtain⟨q,h3,rfl⟩:=List.mem_map.mp hp;exact(sJ (hc.pt q h3)).2.1) (by simp;omega)
  rwa [aaD]at this
 exact bu h rfl (af (aU (kE rfl (aC rfl) (au (di (cE (cS rfl) rfl) rfl kh (bK (aZ (by simp;omega)))) aE) hj) ⟨rfl,rfl⟩))
noncomputable def rt(rows:List (List Pt)):List Nat:=(rows.map λc=>ct c++[10]).flatten
theorem xy:∀{rows:List (List Pt)},(∀c∈rows,Wide c)->(rt rows).length<=rows.length*121
 |[],_=>by simp[rt]
 |c :: rows,h=>by
  have h1:=nT (h c (by simp));have h2:=xy (rows:=rows) λx hx=>h x (by simp[hx]);simp only[rt,Uz,aaI,Yt,aaf,aby]at h2 ⊢;rw[abY];omega
def uF{mS:Nat}{s0:Sl}{os:List (List V)}(ht:F[mS]?=some jw)(h:F[i]?=some (yc mS)){rows:List (List Pt)}(hr:∀c∈rows,Wide c)(hl:rows.length<=100):run F w (n+2) i [.val (.lst (rows.map aQ))]=some (.str (rt rows),[]):=by
 have kh:bR (dX (run F w (n+1)) (.bin .add (.cl mS (.cons (.v 1) .nil)) (.c (.str [10]))) (.one 1) .no [some (.val (.lst (rows.map aQ))),none]) (rows.map aQ)=some (rows.map λc=>.str (ct c++[10])):=
  cD _ _ _ λc h'=>by
   have:=nT (hr c h');exact dD rfl (aW (bB (aK rfl (ao rfl) aM) (b8 (kM ht (hr c h')))) (aC rfl) (dU (by simp;omega)))
 have hj:dz .join (.str []) [.lst (rows.map λc=>V.str (ct c++[10]))]=some (.str (rt rows)):=by
  have h1:=xy hr;have:=qD (l:=rows.map λc=>ct c++[10]) (by unfold rt at h1;omega)
  rwa [aaD]at this
 exact bu h rfl (af (aU (kE rfl (aC rfl) (au (di (cE (cS rfl) rfl) rfl kh (bK (aZ (by simp;omega)))) aE) hj) ⟨rfl,rfl⟩))
def rB(h:F[i]?=some gi){k:Nat}(h1:1<=k)(h2:k<=99):run F w (n+1) i [.val (.str (Ev.gj k))]=some (.int k,[]):=by
 have hr:eH [.int 1,.int (99+1)]=some ((List.range 99).map λ(j:Nat)=>V.int (1+j)):=Wu (by decide) (by decide) (by decide) (by decide);have kh:bR (dX (run F w n) (.bi .gO (.cons (.v 1) .nil)) (.one 1) .no [some (.val (.str (Ev.gj k))),none]) ((List.range 99).map λ(j:Nat)=>V.int (1+j))=some (((List.range 99).map λ(j:Nat)=>Ev.gj ((1+j:Nat):Int)).map V.str):=by
  rw[aaD];refine cD _ _ _ λj hj=>dD rfl (dh (au (ao rfl) aE) ?_);have:=List.mem_range.mp hj;rw[show(1:Int)+(j:Int)=((1+j:Nat):Int)by simp];exact C7 (by omega)
 have hin:cop .fq (.str (Ev.gj k)) (.lst (((List.range 99).map λ(j:Nat)=>Ev.gj ((1+j:Nat):Int)).map V.str))=some false:=by
  rw[Cr,Ew,xx];show some (!_)=_;rw[show((List.range 99).map λ(j:Nat)=>Ev.gj ((1+j:Nat):Int)).contains (Ev.gj k)=true from ?_];rfl;rw[List.contains_iff_mem];exact List.mem_map.mpr ⟨k - 1,by simp;omega,by congr 1;omega⟩
 refine bu h rfl (af (aD (b:=false) (az rfl (aT (ao rfl) (di (qJ (au (aC rfl) (au (aW (aC rfl) (aC rfl) cI) aE)) hr) rfl kh (bK (aZ (by simp)))) hin) rfl) (λh=>absurd h (by decide)) λ_=>ay ?_));exact af (aU (dh (au (ao rfl) aE) (by delta cH;dsimp only;rw[(dg h2).nm];rfl)) ⟨rfl,rfl⟩)
def uG{g7:Nat}(hn:F[g7]?=some gi)(h:F[i]?=some (jl g7)){p:Pt}(hp:WP p):run F w (n+2) i [.val (.str p.t)]=some (p.v,[]):=by
 have s1:∀(x:Nat) (r:List Nat),eV (.str (x :: r)) none (some 1)=some (.str [x]):=λx r=>by rw[fk];exact aab (λz=>some (V.str z)) (uZ (x :: r) 1)
 have s2:∀(x:Nat) (r:List Nat),eV (.str (x :: r)) (some 1) none=some (.str r):=λx r=>by rw[fk];exact aab (λz=>some (V.str z)) (qU (x :: r) 1)
 refine bu h rfl ?_;cases p with
 |keep k=>
  refine af (aD (b:=false) (az rfl (aT (gk (ao rfl) fZ (cX (aC rfl)) (s1 _ _)) (aC rfl) rfl) rfl) (λh=>absurd h (by decide)) λ_=>ay ?_);refine af (aR (j7 (gk (ao rfl) fZ (cX (aC rfl)) (s1 _ _)) rfl) rfl rfl ?_);exact af (aD (b:=true) (az rfl (aT (ao rfl) (aC rfl) eL) rfl) (λ_=>af (aU (cZ (au (ao rfl) (au (bB (aK rfl (gk (ao rfl) (cX (aC rfl)) fZ (s2 _ _)) aM) (b8 (rB hn hp.1 hp.2))) aE)) fL) ⟨rfl,rfl⟩)) λh=>absurd h (by decide))
 |put s=>
  refine af (aD (b:=false) (az rfl (aT (gk (ao rfl) fZ (cX (aC rfl)) (s1 _ _)) (aC rfl) rfl) rfl) (λh=>absurd h (by decide)) λ_=>ay ?_);refine af (aR (j7 (gk (ao rfl) fZ (cX (aC rfl)) (s1 _ _)) rfl) rfl rfl ?_);exact af (aD (b:=false) (az rfl (aT (ao rfl) (aC rfl) eL) rfl) (λh=>absurd h (by decide)) λ_=>ay (af (aU (cZ (au (ao rfl) (au (gk (ao rfl) (cX (aC rfl)) fZ (s2 _ _)) aE)) fL) ⟨rfl,rfl⟩)))
 |drop s=>
  refine af (aD (b:=false) (az rfl (aT (gk (ao rfl) fZ (cX (aC rfl)) (s1 _ _)) (aC rfl) rfl) rfl) (λh=>absurd h (by decide)) λ_=>ay ?_);refine af (aR (j7 (gk (ao rfl) fZ (cX (aC rfl)) (s1 _ _)) rfl) rfl rfl ?_);exact af (aD (b:=false) (az rfl (aT (ao rfl) (aC rfl) eL) rfl) (λh=>absurd h (by decide)) λ_=>ay (af (aU (cZ (au (ao rfl) (au (gk (ao rfl) (cX (aC rfl)) fZ (s2 _ _)) aE)) fL) ⟨rfl,rfl⟩)))
def rC{bX bY dR jK g7 lz:Nat}(hk:F[bX]?=some fC)(hs:F[bY]?=some fD)(hp:F[dR]?=some (dj bX bY))(hi:F[jK]?=some (gY dR))(hn:F[g7]?=some gi)(hr:F[lz]?=some (jl g7))(h:F[i]?=some (jx lz jK)){c:List Pt}(hc:Wide c):run F w (n+4) i [.val (.str (ct c))]=some (aQ c,[]):=by
 have hl:=hc.len;refine bu h rfl ?_;by_cases h0:c=[]
 .subst h0;exact af (aD (b:=true) (az rfl (aT (ao rfl) (aC rfl) eL) rfl) (λ_=>af (aU (cZ aE uT) ⟨rfl,rfl⟩)) λh=>absurd h (by decide))
 .have hne:ct c≠[]:=λz=>h0 ((NO hc).mp z);have iu:pR (.str (ct c)) (.str [47])=some (c.map λp=>.str p.t):=by
   show(if 47<128 then some ((Ev.bC 47 (ct c)).map V.str)else none)=_;rw[JP (by decide),FO hc h0,aaD];rfl
  have kh:bR (dX (run F w (n+3)) (.cl lz (.cons (.v 2) .nil)) (.one 2) .no [some (.val (.str (ct c))),none,none]) (c.map λp=>V.str p.t)=some (c.map Pt.v):=
   cD _ _ _ λp h'=>dD rfl (bB (aK rfl (ao rfl) aM) (b8 (uG (n:=n+1) hn hr (hc.pt p h'))))
  refine af (aD (b:=false) (az rfl (aT (ao rfl) (aC rfl) eL) (aac hne)) (λh=>absurd h (by decide)) λ_=>ay ?_);refine af (aR (v:=aQ c) (uW (di (cE (mE (qK (ao rfl) (aC rfl) iu) (bK (aZ (by simp;omega)))) rfl) rfl kh (bK (aZ (by simp;omega)))) (by show iV (c.map Pt.v)=_;unfold iV;rw[JP (aZ (by simp;omega))];rfl)) rfl rfl ?_);refine af (aD (b:=false) (gb (b:=true) (az rfl (bB (aK rfl (ao rfl) aM) (b8 (uE hk hs hp hi hc))) rfl)) (λh=>absurd h (by decide)) λ_=>ay ?_);exact af (aU (ao rfl) ⟨rfl,rfl⟩)
end
noncomputable def yf:S:=.ret (.an (.ch .le .le (.c (.int 1)) (.bi .len (.cons (.v 0) .nil)) (.c (.int 6))) (.bi .all (.cons (.comp (.cmp .isin (.v 1) (.c (.str [97,98,99,100,101,102,103,104,105,106,107,108,109,110,111,112,113,114,115,116,117,118,119,120,121,122]))) (.one 1) (.seq (.v 0)) .no) .nil)))
noncomputable def nU:Fn:=⟨1,2,(.cons yf .nil)⟩
noncomputable def sL(eB:Nat):S:=.ret (.me .join (.c (.str [])) (.cons (.comp (.bin .add (.bin .add (.bin .add (.v 1) (.c (.str [58,32]))) (.cl eB (.cons (.v 2) .nil))) (.c (.str [10]))) (.many [1,2]) (.seq (.v 0)) .no) .nil))
noncomputable def xA(eB:Nat):Fn:=⟨1,3,(.cons (sL eB) .nil)⟩
noncomputable def uH:S:=.set 1 (.me .part (.v 0) (.cons (.c (.str [58,32])) .nil))
noncomputable def uI(nV:Nat):S:=.iff (.orr (.cmp .eq (.ix (.v 1) (.c (.int 1))) (.c (.str []))) (.nt (.cl nV (.cons (.ix (.v 1) (.c (.int 0))) .nil)))) (.cons (.eS 4) .nil) .nil
noncomputable def uJ(jz:Nat):S:=.ret (.tup (.cons (.ix (.v 1) (.c (.int 0))) (.cons (.cl jz (.cons (.ix (.v 1) (.c (.int 2))) .nil)) .nil)))
noncomputable def pG(nV:Nat)(jz:Nat):Fn:=⟨1,2,(.cons uH (.cons (uI nV) (.cons (uJ jz) .nil)))⟩
noncomputable def sM(mT:Nat)(lD:Nat):S:=.ret (.comp (.cl lD (.cons (.v 1) .nil)) (.one 1) (.seq (.cl mT (.cons (.v 0) .nil))) .no)
noncomputable def xB(mT:Nat)(lD:Nat):Fn:=⟨1,2,(.cons (sM mT lD) .nil)⟩
noncomputable def zy(s:List Nat):Bool:=(decide (1<=s.length)&&decide (s.length<=8))&&s.all λx=>sgn.contains x
noncomputable def C8:Pt->Bool
 |.keep n=>decide (1<=n)&&decide (n<=99)
 |.put s=>zy s
 |.drop s=>zy s
noncomputable def jq(c:List Pt):Bool:=decide (c.length<=12)&&c.all C8
def C9(p:Pt):C8 p=true↔WP p:=by
 cases p<;>simp[C8,WP,zy,WS,and_assoc]
def Dc(c:List Pt):jq c=true↔Wide c:=by
 unfold jq;rw[xg,aay,abc];constructor
 .rintro⟨h1,h2⟩;exact⟨h1,λp hp=>(C9 p).mp (h2 p hp)⟩
 .rintro⟨h1,h2⟩;exact⟨h1,λp hp=>(C9 p).mpr (h2 p hp)⟩
def sN{α:Type}(f:α->Bool)(l:List α):cH .all [.lst (l.map λc=>.bl (f c))]=some (.bl (l.all f)):=by
 rw[sy,kT f l];show some (V.bl _)=_;simp[List.all_map,acn]
section
variable{F:List Fn}{w n i:Nat}
def xC(h:F[i]?=some fC)(k:Nat):run F w (n+1) i [.val (.int k)]=some (.bl (decide (1<=k)&&decide (k<=99)),[]):=by
 refine bu h rfl (af (aD (b:=false) (fy (az rfl (jh (ao rfl) rfl) rfl) (gb (b:=true) (az rfl (jh (ao rfl) rfl) rfl))) (λh=>absurd h (by decide)) λ_=>ay ?_));refine af (aU (AM (b1:=decide (1<=k)) (b2:=decide (1<=k)&&decide (k<=99)) (z:=.int 99) (aC rfl) (ao rfl) ?_ (λh=>⟨aC rfl,?_⟩) λh=>?_) ⟨rfl,rfl⟩)
 .rw[mF];congr 1;exact decide_eq_decide.mpr (by omega)
 .rw[mF,h,acW];congr 1;exact decide_eq_decide.mpr (by omega)
 .rw[h,acN]
def De{P:aP}{fr:Fr}{s:List Nat}{a:E}{m:Nat}{k:Bool}(h:ev P true a fr=.ok (.str s) fr)(hs:s.length<=100000)(ht:bM a=[]) :
  ev P k (.ch .le .le (.c (.int 1)) (.bi .len (.cons a .nil)) (.c (.int (m:Nat)))) fr=.ok (.bl (decide (1<=s.length)&&decide (s.length<=m))) fr:=by
 refine AM (b1:=decide (1<=s.length)) (z:=.int (m:Nat)) (aC rfl) (dh (au ?_ aE) (abh hs)) ?_ (λh=>⟨aC rfl,?_⟩) λh=>?_
 .simpa using h
 .rw[mF];congr 1;exact decide_eq_decide.mpr (by omega)
 .rw[mF,h,acW];congr 1;exact decide_eq_decide.mpr (by omega)
 .rw[h,acN]
def nW(h:F[i]?=some fD)(s:List Nat)(hs:s.length<=10000):run F w (n+1) i [.val (.str s)]=some (.bl (zy s),[]):=by
 have hl:=De (P:=run F w n) (fr:=[some (.val (.str s)),none]) (s:=s) (a:=.v 0) (m:=8) (k:=true) (ao rfl) (by omega) rfl;refine bu h rfl (af (aD (b:=!(decide (1<=s.length)&&decide (s.length<=8))) (fy (gb (b:=true) (az rfl (jh (ao rfl) rfl) rfl)) (gb (az rfl hl rfl))) (λh=>?_) λh=>ay ?_))
 .refine af (aU (aC rfl) ⟨?_,rfl⟩);have:(decide (1<=s.length)&&decide (s.length<=8))=false:=by cases z:(decide (1<=s.length)&&decide (s.length<=8))with|false=>rfl|true=>rw[z]at h;cases h
  unfold zy;rw[this];rfl
 .have h2:(decide (1<=s.length)&&decide (s.length<=8))=true:=by simpa using h
  have hc:bR (dX (run F w n) (.cmp .isin (.v 1) (.c (.str sgn))) (.one 1) .no [some (.val (.str s)),none]) (s.map λc=>.str [c])=some (s.map λc=>.bl (sgn.contains c)):=
   cD _ _ _ λc _=>dD rfl (aT (ao rfl) (aC rfl) pV)
  refine af (aU (dh (au (di (cE (cS rfl) rfl) rfl hc (bK (aZ (by simp;omega)))) aE) (sN _ _)) ⟨?_,rfl⟩);unfold zy;rw[h2];rfl
def xD{bX bY:Nat}(hk:F[bX]?=some fC)(hs:F[bY]?=some fD)(h:F[i]?=some (dj bX bY))(p:Pt)(hp:p.n<=10000):run F w (n+2) i [.val p.v]=some (.bl (C8 p),[]):=by
 refine bu h rfl ?_;have st:∀a b v,Wp (exs (run F w (n+1)) w (.cons (kY bX) (.cons (kZ bY) .nil)) [some (.val (.tup [a,b]))]) (λg fr=>g=.ret v/\outs 1 fr=[])->Wp (exs (run F w (n+1)) w (dj bX bY).body (dZ (dj bX bY) [.val (.tup [a,b])])) λg fr=>g=.ret v/\outs (dj bX bY).np fr=[]:=λa b v q=>
  af (aD (b:=false) (fy (gb (b:=true) (az rfl (jh (ao rfl) rfl) rfl)) (az rfl (aT (dh (au (ao rfl) aE) oE) (aC rfl) qL) rfl)) (λh=>absurd h (by decide)) λ_=>ay q)
 cases p with
 |keep k=>
  exact st _ _ _ (af (aD (b:=true) (az rfl (aT (b9 (ao rfl) (aC rfl) rfl) (aC rfl) eL) rfl) (λ_=>af (aU (bB (aK rfl (b9 (ao rfl) (aC rfl) rfl) aM) (b8 (xC hk k))) ⟨rfl,rfl⟩)) λh=>absurd h (by decide)))
 |put s=>
  exact st _ _ _ (af (aD (b:=false) (az rfl (aT (b9 (ao rfl) (aC rfl) rfl) (aC rfl) eL) rfl) (λh=>absurd h (by decide)) λ_=>ay (af (aU (qH (aT (b9 (ao rfl) (aC rfl) rfl) (cZ (au (aC rfl) (au (aC rfl) aE)) fL) rfl) (bB (aK rfl (b9 (ao rfl) (aC rfl) rfl) aM) (b8 (nW hs s hp)))) ⟨rfl,rfl⟩))))
 |drop s=>
  exact st _ _ _ (af (aD (b:=false) (az rfl (aT (b9 (ao rfl) (aC rfl) rfl) (aC rfl) eL) rfl) (λh=>absurd h (by decide)) λ_=>ay (af (aU (qH (aT (b9 (ao rfl) (aC rfl) rfl) (cZ (au (aC rfl) (au (aC rfl) aE)) fL) rfl) (bB (aK rfl (b9 (ao rfl) (aC rfl) rfl) aM) (b8 (nW hs s hp)))) ⟨rfl,rfl⟩))))
def sO{bX bY dR:Nat}(hk:F[bX]?=some fC)(hs:F[bY]?=some fD)(hp:F[dR]?=some (dj bX bY))(h:F[i]?=some (gY dR))(c:List Pt)(hl:c.length<=10000)(ht:tot c<=10000):run F w (n+3) i [.val (aQ c)]=some (.bl (jq c),[]):=by
 have kh:bR (dX (run F w (n+2)) (.cl dR (.cons (.v 1) .nil)) (.one 1) .no [some (.val (aQ c)),none]) (c.map Pt.v)=some (c.map λp=>.bl (C8 p)):=
  cD _ _ _ λp h'=>dD rfl (bB (aK rfl (ao rfl) aM) (b8 (xD hk hs hp p (aaa (NB h') ht))))
 refine bu h rfl (af (aD (b:=!decide (c.length<=12)) (fy (gb (b:=true) (az rfl (jh (ao rfl) rfl) rfl)) (az rfl (aT (dh (au (ao rfl) aE) oE) (aC rfl) nG) ?_)) (λh=>?_) λh=>ay ?_))
 .show decide _=_;rw[<-decide_not];exact decide_eq_decide.mpr (by simp;omega)
 .have h2:decide (c.length<=12)=false:=by simpa using h
  refine af (aU (aC rfl) ⟨?_,rfl⟩);unfold jq;rw[h2];rfl
 .have h2:decide (c.length<=12)=true:=by simpa using h
  refine af (aU (dh (au (di (cE (cS rfl) rfl) rfl kh (bK (aZ (by simp;omega)))) aE) (sN _ _)) ⟨?_,rfl⟩);unfold jq;rw[h2];rfl
noncomputable def Df:List Nat:=[97,98,99,100,101,102,103,104,105,106,107,108,109,110,111,112,113,114,115,116,117,118,119,120,121,122]
structure NW(o:List Nat):Prop where
 pos:1<=o.length
 le:o.length<=6
 al:∀x∈o,Df.contains x=true
structure WR(r:Row):Prop where
 nm:NW r.1
 wd:Wide r.2
noncomputable def ol(r:Row):List Nat:=r.1++(58 :: 32 :: ct r.2)
noncomputable def ot(rows:List Row):List Nat:=(rows.map λr=>ol r++[10]).flatten
def xE{x:Nat}(h:Df.contains x=true):x≠58/\x≠10:=by
 constructor <;> (intro e;subst e;revert h;decide)
def Ru{r:Row}(h:WR r):10∉ol r:=λz=>by
 unfold ol at z;rcases List.mem_append.mp z with z|z
 .exact(xE (h.nm.al _ z)).2 rfl
 .simp only[aaY]at z;rcases z with z|z|z
  .exact absurd z (by decide)
  .exact absurd z (by decide)
  .exact Rq h.wd z
def NP{r:Row}(h:WR r):(ol r).length<=128:=by
 have h1:=nT h.wd;have h2:=h.nm.le;simp[ol];omega
theorem sP{r:List Nat}:∀(o:List Nat) (k:Nat),(∀x∈o,x≠58)->Ev.findS [58,32] k (o++58 :: 32 :: r)=some (k+o.length)
 |[],k,_=>by simp[Ev.findS]
 |x :: o,k,h=>by
  have hx:=h x (by simp);have ih:=sP (r:=r) o (k+1) λy hy=>h y (by simp[hy]);rw[aax,Ev.findS,Yu (λz=>by simp at z;exact hx z.1),ih];simp;omega
def JZ{r:Row}(h:WR r):Ev.gq (ol r) [58,32]=[r.1,[58,32],ct r.2]:=by
 unfold Ev.gq ol;rw[sP r.1 0 λx hx=>(xE (h.nm.al x hx)).1];simp
theorem rD:∀{rows:List Row},(∀r∈rows,WR r)->(ot rows).length<=rows.length*129
 |[],_=>by simp[ot]
 |r :: rows,h=>by
  have h1:=NP (h r (by simp));have h2:=rD (rows:=rows) λx hx=>h x (by simp[hx]);simp only[ot,Uz,aaI,Yt,aaf,aby]at h2 ⊢;rw[abY];omega
def yg(h:F[i]?=some nU){o:List Nat}(ho:NW o):run F w (n+1) i [.val (.str o)]=some (.bl true,[]):=by
 have h6:=ho.le;have hl:=De (P:=run F w n) (fr:=[some (.val (.str o)),none]) (s:=o) (a:=.v 0) (m:=6) (k:=true) (ao rfl) (by omega) rfl;rw[aaj ho.pos,aaj ho.le]at hl;have hc:bR (dX (run F w n) (.cmp .isin (.v 1) (.c (.str Df))) (.one 1) .no [some (.val (.str o)),none]) (o.map λc=>.str [c])=some (o.map λc=>.bl (Df.contains c)):=
  cD _ _ _ λc _=>dD rfl (aT (ao rfl) (aC rfl) pV)
 have ha:o.all (λc=>Df.contains c)=true:=List.all_eq_true.mpr ho.al;refine bu h rfl (af (aU (qH hl (dh (au (di (cE (cS rfl) rfl) rfl hc (bK (aZ (by simp;omega)))) aE) (sN _ _))) ⟨?_,rfl⟩));rw[ha]
def sQ{mS:Nat}(ht:F[mS]?=some jw)(h:F[i]?=some (xA mS)){rows:List Row}(hr:∀r∈rows,WR r)(hl:rows.length<=100):run F w (n+2) i [.val (.lst (rows.map aL))]=some (.str (ot rows),[]):=by
 have kh:bR (dX (run F w (n+1)) (.bin .add (.bin .add (.bin .add (.v 1) (.c (.str [58,32]))) (.cl mS (.cons (.v 2) .nil))) (.c (.str [10]))) (.many [1,2]) .no [some (.val (.lst (rows.map aL))),none,none]) (rows.map aL)=some (rows.map λr=>.str (ol r++[10])):=
  cD _ _ _ λr h'=>by
   have h1:=nT (hr r h').wd;have h2:=(hr r h').nm.le;refine dD rfl (aW (aW (aW (ao rfl) (aC rfl) (dU (by simp;omega))) (bB (aK rfl (ao rfl) aM) (b8 (kM ht (hr r h').wd))) (dU (by simp;omega))) (aC rfl) ((dU (by simp;omega)).trans ?_));simp[ol]
 have hj:dz .join (.str []) [.lst (rows.map λr=>V.str (ol r++[10]))]=some (.str (ot rows)):=by
  have h1:=rD hr;have:=qD (l:=rows.map λr=>ol r++[10]) (by unfold ot at h1;omega)
  rwa [aaD]at this
 exact bu h rfl (af (aU (kE rfl (aC rfl) (au (di (cE (cS rfl) rfl) rfl kh (bK (aZ (by simp;omega)))) aE) hj) ⟨rfl,rfl⟩))
def xF{rows:List Row}(hr:∀r∈rows,WR r):Ev.bC 10 (ot rows)=rows.map ol++[[]]:=by
 have:=pD (c:=10) (ps:=rows.map ol) λp hp=>by
  obtain⟨c,h1,rfl⟩:=List.mem_map.mp hp;exact Ru (hr c h1)
 rw[aaD]at this;exact this
def uK(h:F[i]?=some rq){rows:List Row}(hr:∀r∈rows,WR r)(hl:rows.length<=100):run F w (n+1) i [.val (.str (ot rows))]=some (.lst (rows.map λr=>.str (ol r)),[]):=by
 have iu:pR (.str (ot rows)) (.str [10])=some ((rows.map λr=>.str (ol r))++[.str []]):=by
  show(if 10<128 then some ((Ev.bC 10 (ot rows)).map V.str)else none)=_;rw[JP (by decide),xF hr];simp
 refine bu h rfl ?_;refine af (gg (mE (qK (ao rfl) (aC rfl) iu) (bK (aZ (by simp;omega)))) rfl rfl ?_);refine af (aD (b:=false) (az rfl (aT (jG rfl rfl aE oG) (aC rfl) gw) rfl) (λh=>absurd h (by decide)) λ_=>ay ?_);exact af (aU (ao rfl) ⟨rfl,rfl⟩)
def uL{bX bY dR jK g7 lz sR sS:Nat}(hk:F[bX]?=some fC)(hs:F[bY]?=some fD)(hp:F[dR]?=some (dj bX bY))(hi:F[jK]?=some (gY dR))(hn:F[g7]?=some gi)(hr:F[lz]?=some (jl g7))(NQ:F[sR]?=some (jx lz jK))(hnm:F[sS]?=some nU)(h:F[i]?=some (pG sS sR)){r:Row}(hw:WR r):run F w (n+5) i [.val (.str (ol r))]=some (aL r,[]):=by
 have Yv:dz .part (.str (ol r)) [.str [58,32]]=some (.tup [.str r.1,.str [58,32],.str (ct r.2)]):=by
  show(if ([58,32]:List Nat)=[]then none else some (V.tup ((Ev.gq (ol r) [58,32]).map .str)))=_;rw[Yu (by decide),JZ hw];rfl
 refine bu h rfl ?_;refine af (aR (kE rfl (ao rfl) (au (aC rfl) aE) Yv) rfl rfl ?_);refine af (aD (b:=false) (fy (az rfl (aT (b9 (ao rfl) (aC rfl) rfl) (aC rfl) eL) rfl) (gb (b:=true) (az rfl (bB (aK rfl (b9 (ao rfl) (aC rfl) rfl) aM) (b8 (yg hnm hw.nm))) rfl))) (λh=>absurd h (by decide)) λ_=>ay ?_);exact af (aU (cZ (au (b9 (ao rfl) (aC rfl) rfl) (au (bB (aK rfl (b9 (ao rfl) (aC rfl) rfl) aM) (b8 (rC hk hs hp hi hn hr NQ hw.wd))) aE)) fL) ⟨rfl,rfl⟩)
def sU{bX bY dR jK g7 lz sR sS FP AN:Nat}(hk:F[bX]?=some fC)(hs:F[bY]?=some fD)(hp:F[dR]?=some (dj bX bY))(hi:F[jK]?=some (gY dR))(hn:F[g7]?=some gi)(hr:F[lz]?=some (jl g7))(NQ:F[sR]?=some (jx lz jK))(hnm:F[sS]?=some nU)(hlo:F[FP]?=some rq)(hrl:F[AN]?=some (pG sS sR))(h:F[i]?=some (xB FP AN)){rows:List Row}(hrs:∀r∈rows,WR r)(hl:rows.length<=100) :
  run F w (n+6) i [.val (.str (ot rows))]=some (.lst (rows.map aL),[]):=by
 have kh:bR (dX (run F w (n+5)) (.cl AN (.cons (.v 1) .nil)) (.one 1) .no [some (.val (.str (ot rows))),none]) (rows.map λr=>V.str (ol r))=some (rows.map aL):=
  cD _ _ _ λr h'=>dD rfl (bB (aK rfl (ao rfl) aM) (b8 (uL hk hs hp hi hn hr NQ hnm hrl (hrs r h'))))
 exact bu h rfl (af (aU (di (cE (bB (aK rfl (ao rfl) aM) (b8 (uK hlo hrs hl))) rfl) rfl kh (bK (aZ (by simp;omega)))) ⟨rfl,rfl⟩))
end
abbrev Rw:=Nat×List Nat×List Nat
section
noncomputable def oF(m:Nat)(s:Sl)(ps:List Pt)(th:Nat)(a b d:Option Sl):Fr:=[some (.val (.int m)),some s,some (.own (ps.map Pt.v)),some (.val (.int th)),a,b,d]
end
noncomputable def dl:List Nat->List Nat->Nat
 |[],b=>b.length
 |_ :: a,[]=>a.length+1
 |x :: a,y :: b=>if x=y then dl a b else 1+min (dl a (y :: b)) (dl (x :: a) b)
termination_by a b=>a.length+b.length
noncomputable def Yw:At->Pt
 |.k=>.keep 1
 |.d c=>.drop [c]
 |.p c=>.put [c]
noncomputable def Yx(A new:List Nat)(j:Nat):V:=.int (dl A (new.take j).reverse:Nat)
noncomputable def WG(A new:List Nat):List V:=(List.range (new.length+1)).map (Yx A new)
noncomputable def Yy(old new:List Nat)(i:Nat):V:=.lst (WG (old.take i).reverse new)
noncomputable def Yz(old new:List Nat):List V:=(List.range (old.length+1)).map (Yy old new)
section
variable{i:Nat}
noncomputable def hF(old new:List Nat)(ps:List At)(i j:Nat):Fr:=[some (.val (.str old)),some (.val (.str new)),some (.val (.lst (Yz old new))),some (.own (ps.map λx=>(Yw x).v)),some (.val (.int (i:Nat))),some (.val (.int (j:Nat)))]
end
end Pv
namespace Lw
@[reducible] noncomputable def WH:Ev.S:=.iff (.orr (.nt (.gx (.v 0) [.tuple])) (.cmp .gt (.bi .len (.cons (.v 0) .nil)) (.c (.int 12)))) (.cons (.ret (.c (.bl false))) .nil) .nil
@[reducible] noncomputable def WI:Ev.S:=.ret (.bi .all (.cons (.comp (.cl 1 (.cons (.v 1) .nil)) (.one 1) (.seq (.v 0)) .no) .nil))
@[reducible] noncomputable def f0:Ev.Fn:=⟨1,2,(.cons WH (.cons WI .nil))⟩
@[reducible] noncomputable def WJ:Ev.S:=.iff (.orr (.nt (.gx (.v 0) [.tuple])) (.cmp .ne (.bi .len (.cons (.v 0) .nil)) (.c (.int 2)))) (.cons (.ret (.c (.bl false))) .nil) .nil
@[reducible] noncomputable def WK:Ev.S:=.iff (.cmp .eq (.ix (.v 0) (.c (.int 0))) (.c (.str [107,101,101,112]))) (.cons (.ret (.cl 2 (.cons (.ix (.v 0) (.c (.int 1))) .nil))) .nil) .nil
@[reducible] noncomputable def WL:Ev.S:=.ret (.an (.cmp .isin (.ix (.v 0) (.c (.int 0))) (.tup (.cons (.c (.str [112,117,116])) (.cons (.c (.str [100,114,111,112])) .nil)))) (.cl 3 (.cons (.ix (.v 0) (.c (.int 1))) .nil)))
@[reducible] noncomputable def f1:Ev.Fn:=⟨1,1,(.cons WJ (.cons WK (.cons WL .nil)))⟩
@[reducible] noncomputable def WM:Ev.S:=.iff (.orr (.gx (.v 0) [.bool]) (.nt (.gx (.v 0) [.int]))) (.cons (.ret (.c (.bl false))) .nil) .nil
@[reducible] noncomputable def WN:Ev.S:=.ret (.ch .le .le (.c (.int 1)) (.v 0) (.c (.int 99)))
@[reducible] noncomputable def f2:Ev.Fn:=⟨1,1,(.cons WM (.cons WN .nil))⟩
@[reducible] noncomputable def WO:Ev.S:=.iff (.orr (.nt (.gx (.v 0) [.str])) (.nt (.ch .le .le (.c (.int 1)) (.bi .len (.cons (.v 0) .nil)) (.c (.int 8))))) (.cons (.ret (.c (.bl false))) .nil) .nil
@[reducible] noncomputable def WQ:Ev.S:=.ret (.bi .all (.cons (.comp (.cmp .isin (.v 1) (.c (.str [97,98,99,100,101,102,103,104,105,106,107,108,109,110,111,112,113,114,115,116,117,118,119,120,121,122,32]))) (.one 1) (.seq (.v 0)) .no) .nil))
@[reducible] noncomputable def f3:Ev.Fn:=⟨1,2,(.cons WO (.cons WQ .nil))⟩
@[reducible] noncomputable def WT:Ev.S:=.iff (.cmp .eq (.ix (.v 0) (.c (.int 0))) (.c (.str [107,101,101,112]))) (.cons (.ret (.ix (.v 0) (.c (.int 1)))) .nil) .nil
@[reducible] noncomputable def WU:Ev.S:=.ret (.bi .len (.cons (.ix (.v 0) (.c (.int 1))) .nil))
@[reducible] noncomputable def f4:Ev.Fn:=⟨1,1,(.cons WT (.cons WU .nil))⟩
@[reducible] noncomputable def WV:Ev.S:=.ret (.bi .sum (.cons (.comp (.cl 4 (.cons (.v 1) .nil)) (.one 1) (.seq (.v 0)) (.yes (.cmp .ne (.ix (.v 1) (.c (.int 0))) (.c (.str [112,117,116]))))) .nil))
@[reducible] noncomputable def f5:Ev.Fn:=⟨1,2,(.cons WV .nil)⟩
@[reducible] noncomputable def WX:Ev.S:=.ret (.bi .sum (.cons (.comp (.cl 4 (.cons (.v 1) .nil)) (.one 1) (.seq (.v 0)) (.yes (.cmp .ne (.ix (.v 1) (.c (.int 0))) (.c (.str [100,114,111,112]))))) .nil))
@[reducible] noncomputable def f6:Ev.Fn:=⟨1,2,(.cons WX .nil)⟩
@[reducible] noncomputable def WY:Ev.S:=.ret (.bi .sum (.cons (.comp (.cl 4 (.cons (.v 1) .nil)) (.one 1) (.seq (.v 0)) (.yes (.cmp .ne (.ix (.v 1) (.c (.int 0))) (.c (.str [107,101,101,112]))))) .nil))
@[reducible] noncomputable def f7:Ev.Fn:=⟨1,2,(.cons WY .nil)⟩
@[reducible] noncomputable def WZ:Ev.S:=.set 1 (.lst .nil)
@[reducible] noncomputable def W0:Ev.S:=.set 2 (.c (.int 0))
@[reducible] noncomputable def W2:Ev.S:=.set 3 (.c (.str []))
@[reducible] noncomputable def W3:Ev.S:=.set 4 (.c (.str []))
@[reducible] noncomputable def W4:Ev.Ss:=(.cons (.iff (.cmp .eq (.v 5) (.c (.str [100,114,111,112]))) (.cons (.set 3 (.bin .add (.v 3) (.v 6))) .nil) (.cons (.iff (.cmp .eq (.v 5) (.c (.str [112,117,116]))) (.cons (.set 4 (.bin .add (.v 4) (.v 6))) .nil) (.cons (.iff (.cmp .gt (.v 6) (.c (.int 0))) (.cons (.iff (.orr (.cmp .ne (.v 3) (.c (.str []))) (.cmp .ne (.v 4) (.c (.str [])))) (.cons (.exp (.me .extend (.v 1) (.cons (.cl 9 (.cons (.v 2) (.cons (.v 3) (.cons (.v 4) .nil)))) .nil))) (.cons (.set 2 (.c (.int 0))) (.cons (.set 3 (.c (.str []))) (.cons (.set 4 (.c (.str []))) .nil)))) .nil) (.cons (.set 2 (.bin .add (.v 2) (.v 6))) .nil)) .nil) .nil)) .nil)) .nil)
@[reducible] noncomputable def W5:Ev.S:=.for (.many [5,6]) (.seq (.v 0)) W4
@[reducible] noncomputable def W6:Ev.S:=.exp (.me .extend (.v 1) (.cons (.cl 9 (.cons (.v 2) (.cons (.v 3) (.cons (.v 4) .nil)))) .nil))
@[reducible] noncomputable def W7:Ev.S:=.ret (.jA (.v 1))
@[reducible] noncomputable def f8:Ev.Fn:=⟨1,7,(.cons WZ (.cons W0 (.cons W2 (.cons W3 (.cons W5 (.cons W6 (.cons W7 .nil)))))))⟩
@[reducible] noncomputable def W8:Ev.S:=.set 3 (.lst .nil)
@[reducible] noncomputable def W9:Ev.S:=.iff (.cmp .gt (.v 0) (.c (.int 0))) (.cons (.exp (.me .append (.v 3) (.cons (.tup (.cons (.c (.str [107,101,101,112])) (.cons (.v 0) .nil))) .nil))) .nil) .nil
@[reducible] noncomputable def Xa:Ev.S:=.iff (.cmp .ne (.v 1) (.c (.str []))) (.cons (.exp (.me .append (.v 3) (.cons (.tup (.cons (.c (.str [100,114,111,112])) (.cons (.v 1) .nil))) .nil))) .nil) .nil
@[reducible] noncomputable def Xb:Ev.S:=.iff (.cmp .ne (.v 2) (.c (.str []))) (.cons (.exp (.me .append (.v 3) (.cons (.tup (.cons (.c (.str [112,117,116])) (.cons (.v 2) .nil))) .nil))) .nil) .nil
@[reducible] noncomputable def Xc:Ev.S:=.ret (.v 3)
@[reducible] noncomputable def f9:Ev.Fn:=⟨3,4,(.cons W8 (.cons W9 (.cons Xa (.cons Xb (.cons Xc .nil)))))⟩
@[reducible] noncomputable def Rx:Ev.S:=.ret (.me .join (.c (.str [47])) (.cons (.comp (.bin .add (.gP [(.str [107,101,101,112],.str [61]),(.str [112,117,116],.str [43]),(.str [100,114,111,112],.str [45])] (.v 1)) (.bi .gO (.cons (.v 2) .nil))) (.many [1,2]) (.seq (.v 0)) .no) .nil))
@[reducible] noncomputable def BQ:Ev.Fn:=⟨1,3,(.cons Rx .nil)⟩
@[reducible] noncomputable def Ry:Ev.S:=.ret (.me .join (.c (.str [])) (.cons (.comp (.bin .add (.cl 10 (.cons (.v 1) .nil)) (.c (.str [10]))) (.one 1) (.seq (.v 0)) .no) .nil))
@[reducible] noncomputable def NR:Ev.Fn:=⟨1,2,(.cons Ry .nil)⟩
@[reducible] noncomputable def Rz:Ev.S:=.iff (.cmp .eq (.v 0) (.c (.str []))) (.cons (.ret (.tup .nil)) .nil) .nil
@[reducible] noncomputable def RA:Ev.S:=.set 1 (.jA (.comp (.cl 13 (.cons (.v 2) .nil)) (.one 2) (.seq (.gp (.jV (.v 0) (.c (.str [47]))))) .no))
@[reducible] noncomputable def RB:Ev.S:=.iff (.nt (.cl 0 (.cons (.v 1) .nil))) (.cons (.eS 4) .nil) .nil
@[reducible] noncomputable def RC:Ev.S:=.ret (.v 1)
@[reducible] noncomputable def NS:Ev.Fn:=⟨1,3,(.cons Rz (.cons RA (.cons RB (.cons RC .nil))))⟩
@[reducible] noncomputable def RD:Ev.S:=.iff (.cmp .fq (.sl (.v 0) .no (.yes (.c (.int 1)))) (.c (.str [61,43,45]))) (.cons (.eS 4) .nil) .nil
@[reducible] noncomputable def RE:Ev.S:=.set 1 (.gP [(.str [61],.str [107,101,101,112]),(.str [43],.str [112,117,116]),(.str [45],.str [100,114,111,112])] (.sl (.v 0) .no (.yes (.c (.int 1)))))
@[reducible] noncomputable def RG:Ev.S:=.iff (.cmp .eq (.v 1) (.c (.str [107,101,101,112]))) (.cons (.ret (.tup (.cons (.v 1) (.cons (.cl 14 (.cons (.sl (.v 0) (.yes (.c (.int 1))) .no) .nil)) .nil)))) .nil) .nil
@[reducible] noncomputable def RH:Ev.S:=.ret (.tup (.cons (.v 1) (.cons (.sl (.v 0) (.yes (.c (.int 1))) .no) .nil)))
@[reducible] noncomputable def NT:Ev.Fn:=⟨1,2,(.cons RD (.cons RE (.cons RG (.cons RH .nil))))⟩
@[reducible] noncomputable def RI:Ev.S:=.iff (.cmp .fq (.v 0) (.comp (.bi .gO (.cons (.v 1) .nil)) (.one 1) (.gI (.cons (.c (.int 1)) (.cons (.bin .add (.c (.int 99)) (.c (.int 1))) .nil))) .no)) (.cons (.eS 4) .nil) .nil
@[reducible] noncomputable def RJ:Ev.S:=.ret (.bi .mj (.cons (.v 0) .nil))
@[reducible] noncomputable def NU:Ev.Fn:=⟨1,2,(.cons RI (.cons RJ .nil))⟩
@[reducible] noncomputable def RK:Ev.S:=.set 1 (.gp (.jV (.v 0) (.c (.str [10]))))
@[reducible] noncomputable def RL:Ev.S:=.iff (.cmp .ne (.me .pop (.v 1) .nil) (.c (.str []))) (.cons (.eS 4) .nil) .nil
@[reducible] noncomputable def RM:Ev.S:=.ret (.v 1)
@[reducible] noncomputable def NV:Ev.Fn:=⟨1,2,(.cons RK (.cons RL (.cons RM .nil)))⟩
@[reducible] noncomputable def RN:Ev.S:=.ret (.me .join (.c (.str [])) (.cons (.comp (.bin .add (.bin .add (.bin .add (.v 1) (.c (.str [58,32]))) (.cl 10 (.cons (.v 2) .nil))) (.c (.str [10]))) (.many [1,2]) (.seq (.v 0)) .no) .nil))
@[reducible] noncomputable def NX:Ev.Fn:=⟨1,3,(.cons RN .nil)⟩
@[reducible] noncomputable def RP:Ev.S:=.ret (.comp (.cl 18 (.cons (.v 1) .nil)) (.one 1) (.seq (.cl 15 (.cons (.v 0) .nil))) .no)
@[reducible] noncomputable def NY:Ev.Fn:=⟨1,2,(.cons RP .nil)⟩
@[reducible] noncomputable def RQ:Ev.S:=.set 1 (.me .part (.v 0) (.cons (.c (.str [58,32])) .nil))
@[reducible] noncomputable def RT:Ev.S:=.iff (.orr (.cmp .eq (.ix (.v 1) (.c (.int 1))) (.c (.str []))) (.nt (.cl 19 (.cons (.ix (.v 1) (.c (.int 0))) .nil)))) (.cons (.eS 4) .nil) .nil
@[reducible] noncomputable def RU:Ev.S:=.ret (.tup (.cons (.ix (.v 1) (.c (.int 0))) (.cons (.cl 12 (.cons (.ix (.v 1) (.c (.int 2))) .nil)) .nil)))
@[reducible] noncomputable def NZ:Ev.Fn:=⟨1,2,(.cons RQ (.cons RT (.cons RU .nil)))⟩
@[reducible] noncomputable def RW:Ev.S:=.ret (.an (.ch .le .le (.c (.int 1)) (.bi .len (.cons (.v 0) .nil)) (.c (.int 6))) (.bi .all (.cons (.comp (.cmp .isin (.v 1) (.c (.str [97,98,99,100,101,102,103,104,105,106,107,108,109,110,111,112,113,114,115,116,117,118,119,120,121,122]))) (.one 1) (.seq (.v 0)) .no) .nil)))
@[reducible] noncomputable def N1:Ev.Fn:=⟨1,2,(.cons RW .nil)⟩
@[reducible] noncomputable def RX:Ev.S:=.set 2 (.c (.int 0))
@[reducible] noncomputable def RY:Ev.Ss:=(.cons (.iff (.an (.cmp .eq (.ix (.v 3) (.c (.int 0))) (.c (.str [100,114,111,112]))) (.cmp .ne (.sl (.v 1) (.yes (.v 2)) (.yes (.bin .add (.v 2) (.cl 4 (.cons (.v 3) .nil))))) (.ix (.v 3) (.c (.int 1))))) (.cons (.ret (.c (.bl false))) .nil) .nil) (.cons (.iff (.cmp .ne (.ix (.v 3) (.c (.int 0))) (.c (.str [112,117,116]))) (.cons (.set 2 (.bin .add (.v 2) (.cl 4 (.cons (.v 3) .nil)))) .nil) .nil) .nil))
@[reducible] noncomputable def RZ:Ev.S:=.for (.one 3) (.seq (.v 0)) RY
@[reducible] noncomputable def R0:Ev.S:=.ret (.cmp .eq (.v 2) (.bi .len (.cons (.v 1) .nil)))
@[reducible] noncomputable def N3:Ev.Fn:=⟨2,4,(.cons RX (.cons RZ (.cons R0 .nil)))⟩
@[reducible] noncomputable def R1:Ev.S:=.iff (.nt (.cl 20 (.cons (.v 0) (.cons (.v 1) .nil)))) (.cons (.eS 0) .nil) .nil
@[reducible] noncomputable def R3:Ev.S:=.set 2 (.lst .nil)
@[reducible] noncomputable def R4:Ev.S:=.set 3 (.c (.int 0))
@[reducible] noncomputable def R5:Ev.Ss:=(.cons (.iff (.cmp .eq (.v 4) (.c (.str [112,117,116]))) (.cons (.exp (.me .append (.v 2) (.cons (.v 5) .nil))) .nil) (.cons (.iff (.cmp .eq (.v 4) (.c (.str [100,114,111,112]))) (.cons (.set 3 (.bin .add (.v 3) (.bi .len (.cons (.v 5) .nil)))) .nil) (.cons (.exp (.me .append (.v 2) (.cons (.sl (.v 1) (.yes (.v 3)) (.yes (.bin .add (.v 3) (.v 5)))) .nil))) (.cons (.set 3 (.bin .add (.v 3) (.v 5))) .nil))) .nil)) .nil)
@[reducible] noncomputable def R6:Ev.S:=.for (.many [4,5]) (.seq (.v 0)) R5
@[reducible] noncomputable def R7:Ev.S:=.ret (.me .join (.c (.str [])) (.cons (.v 2) .nil))
@[reducible] noncomputable def N4:Ev.Fn:=⟨2,6,(.cons R1 (.cons R3 (.cons R4 (.cons R6 (.cons R7 .nil)))))⟩
@[reducible] noncomputable def R8:Ev.S:=.iff (.cmp .ne (.cl 6 (.cons (.v 0) .nil)) (.cl 5 (.cons (.v 1) .nil))) (.cons (.eS 0) .nil) .nil
@[reducible] noncomputable def R9:Ev.S:=.set 2 (.gp (.rev (.cl 8 (.cons (.v 0) .nil))))
@[reducible] noncomputable def Sa:Ev.S:=.set 3 (.gp (.rev (.cl 8 (.cons (.v 1) .nil))))
@[reducible] noncomputable def Sb:Ev.S:=.set 4 (.lst .nil)
@[reducible] noncomputable def Sd:Ev.Ss:=(.cons (.iff (.an (.v 2) (.cmp .eq (.ix (.ix (.v 2) (.neg (.c (.int 1)))) (.c (.int 0))) (.c (.str [100,114,111,112])))) (.cons (.exp (.me .append (.v 4) (.cons (.me .pop (.v 2) .nil) .nil))) .nil) (.cons (.iff (.an (.v 3) (.cmp .eq (.ix (.ix (.v 3) (.neg (.c (.int 1)))) (.c (.int 0))) (.c (.str [112,117,116])))) (.cons (.exp (.me .append (.v 4) (.cons (.me .pop (.v 3) .nil) .nil))) .nil) (.cons (.set 5 (.bi .min (.cons (.cl 4 (.cons (.ix (.v 2) (.neg (.c (.int 1)))) .nil)) (.cons (.cl 4 (.cons (.ix (.v 3) (.neg (.c (.int 1)))) .nil)) .nil)))) (.cons (.exp (.me .extend (.v 4) (.cons (.cl 23 (.cons (.cl 24 (.cons (.v 2) (.cons (.v 5) .nil))) (.cons (.cl 24 (.cons (.v 3) (.cons (.v 5) .nil))) .nil))) .nil))) .nil))) .nil)) .nil)
@[reducible] noncomputable def Se:Ev.S:=.oU (.orr (.v 2) (.v 3)) Sd
@[reducible] noncomputable def Sf:Ev.S:=.ret (.cl 8 (.cons (.jA (.v 4)) .nil))
@[reducible] noncomputable def N5:Ev.Fn:=⟨2,6,(.cons R8 (.cons R9 (.cons Sa (.cons Sb (.cons Se (.cons Sf .nil))))))⟩
@[reducible] noncomputable def Sg:Ev.S:=.iff (.cmp .eq (.ix (.v 1) (.c (.int 0))) (.c (.str [107,101,101,112]))) (.cons (.ret (.lst (.cons (.v 0) .nil))) .nil) .nil
@[reducible] noncomputable def Sh:Ev.S:=.iff (.cmp .eq (.ix (.v 0) (.c (.int 0))) (.c (.str [107,101,101,112]))) (.cons (.ret (.lst (.cons (.v 1) .nil))) .nil) .nil
@[reducible] noncomputable def Si:Ev.S:=.iff (.cmp .ne (.ix (.v 0) (.c (.int 1))) (.ix (.v 1) (.c (.int 1)))) (.cons (.eS 0) .nil) .nil
@[reducible] noncomputable def Sj:Ev.S:=.ret (.lst .nil)
@[reducible] noncomputable def N6:Ev.Fn:=⟨2,2,(.cons Sg (.cons Sh (.cons Si (.cons Sj .nil))))⟩
@[reducible] noncomputable def Sk:Ev.S:=.set 2 (.cl 25 (.cons (.me .pop (.v 0) .nil) (.cons (.v 1) .nil)))
@[reducible] noncomputable def Sn:Ev.S:=.iff (.cmp .gt (.cl 4 (.cons (.ix (.v 2) (.c (.int 1))) .nil)) (.c (.int 0))) (.cons (.exp (.me .append (.v 0) (.cons (.ix (.v 2) (.c (.int 1))) .nil))) .nil) .nil
@[reducible] noncomputable def So:Ev.S:=.ret (.ix (.v 2) (.c (.int 0)))
@[reducible] noncomputable def N7:Ev.Fn:=⟨2,3,(.cons Sk (.cons Sn (.cons So .nil)))⟩
@[reducible] noncomputable def Sq:Ev.S:=.set 2 (.ix (.v 0) (.c (.int 0)))
@[reducible] noncomputable def Su:Ev.S:=.iff (.cmp .eq (.v 2) (.c (.str [107,101,101,112]))) (.cons (.ret (.tup (.cons (.tup (.cons (.v 2) (.cons (.v 1) .nil))) (.cons (.tup (.cons (.v 2) (.cons (.bin .sub (.ix (.v 0) (.c (.int 1))) (.v 1)) .nil))) .nil)))) .nil) .nil
@[reducible] noncomputable def Sv:Ev.S:=.ret (.tup (.cons (.tup (.cons (.v 2) (.cons (.sl (.ix (.v 0) (.c (.int 1))) .no (.yes (.v 1))) .nil))) (.cons (.tup (.cons (.v 2) (.cons (.sl (.ix (.v 0) (.c (.int 1))) (.yes (.v 1)) .no) .nil))) .nil)))
@[reducible] noncomputable def N8:Ev.Fn:=⟨2,3,(.cons Sq (.cons Su (.cons Sv .nil)))⟩
@[reducible] noncomputable def Sw:Ev.S:=.ret (.ix (.cl 27 (.cons (.v 0) (.cons (.v 1) .nil))) (.c (.int 0)))
@[reducible] noncomputable def Dh:Ev.Fn:=⟨2,2,(.cons Sw .nil)⟩
@[reducible] noncomputable def Sx:Ev.S:=.set 2 (.v 0)
@[reducible] noncomputable def Sy:Ev.S:=.set 3 (.comp (.c (.bz)) (.one 8) (.seq (.v 0)) .no)
@[reducible] noncomputable def Sz:Ev.S:=.set 4 (.lst .nil)
@[reducible] noncomputable def SA:Ev.Ss:=(.cons (.set 2 (.cl 21 (.cons (.v 6) (.cons (.v 2) .nil)))) (.cons (.set 7 (.cl 28 (.cons (.v 3) (.cons (.v 5) (.cons (.v 6) .nil))))) (.cons (.set 3 (.ix (.v 7) (.c (.int 0)))) (.cons (.exp (.me .extend (.v 4) (.cons (.ix (.v 7) (.c (.int 1))) .nil))) .nil))))
@[reducible] noncomputable def SD:Ev.S:=.for (.many [5,6]) (.seq (.v 1)) SA
@[reducible] noncomputable def SE:Ev.S:=.ret (.tup (.cons (.v 3) (.cons (.v 4) .nil)))
@[reducible] noncomputable def xG:Ev.Fn:=⟨2,9,(.cons Sx (.cons Sy (.cons Sz (.cons SD (.cons SE .nil)))))⟩
@[reducible] noncomputable def SG:Ev.S:=.set 3 (.lst .nil)
@[reducible] noncomputable def SH:Ev.S:=.set 4 (.lst .nil)
@[reducible] noncomputable def SI:Ev.S:=.set 5 (.c (.int 0))
@[reducible] noncomputable def SJ:Ev.Ss:=(.cons (.iff (.cmp .eq (.ix (.v 6) (.c (.int 0))) (.c (.str [112,117,116]))) (.cons (.exp (.me .extend (.v 3) (.cons (.comp (.v 1) (.one 8) (.seq (.ix (.v 6) (.c (.int 1)))) .no) .nil))) (.cons (.cnt) .nil)) .nil) (.cons (.set 7 (.sl (.v 0) (.yes (.v 5)) (.yes (.bin .add (.v 5) (.cl 4 (.cons (.v 6) .nil)))))) (.cons (.set 5 (.bin .add (.v 5) (.cl 4 (.cons (.v 6) .nil)))) (.cons (.iff (.cmp .eq (.ix (.v 6) (.c (.int 0))) (.c (.str [107,101,101,112]))) (.cons (.exp (.me .extend (.v 3) (.cons (.v 7) .nil))) .nil) (.cons (.exp (.me .extend (.v 4) (.cons (.v 7) .nil))) .nil)) .nil))))
@[reducible] noncomputable def SK:Ev.S:=.for (.one 6) (.seq (.v 2)) SJ
@[reducible] noncomputable def SM:Ev.S:=.ret (.tup (.cons (.v 3) (.cons (.v 4) .nil)))
@[reducible] noncomputable def xH:Ev.Fn:=⟨3,9,(.cons SG (.cons SH (.cons SI (.cons SK (.cons SM .nil)))))⟩
@[reducible] noncomputable def SN:Ev.S:=.set 1 (.lst .nil)
@[reducible] noncomputable def SO:Ev.Ss:=(.cons (.set 4 (.cl 8 (.cons (.v 3) .nil))) (.cons (.iff (.an (.v 1) (.cmp .eq (.ix (.ix (.v 1) (.neg (.c (.int 1)))) (.c (.int 0))) (.v 2))) (.cons (.set 4 (.cl 22 (.cons (.ix (.me .pop (.v 1) .nil) (.c (.int 1))) (.cons (.v 3) .nil)))) .nil) .nil) (.cons (.iff (.cmp .gt (.cl 7 (.cons (.v 4) .nil)) (.c (.int 0))) (.cons (.exp (.me .append (.v 1) (.cons (.tup (.cons (.v 2) (.cons (.v 4) .nil))) .nil))) .nil) .nil) .nil)))
@[reducible] noncomputable def SQ:Ev.S:=.for (.many [2,3]) (.seq (.v 0)) SO
@[reducible] noncomputable def SS:Ev.S:=.ret (.v 1)
@[reducible] noncomputable def xJ:Ev.Fn:=⟨1,5,(.cons SN (.cons SQ (.cons SS .nil)))⟩
@[reducible] noncomputable def SV:Ev.S:=.iff (.cmp .eq (.v 0) (.lst .nil)) (.cons (.ret (.bin .mul (.c (.int 7)) (.v 1))) .nil) .nil
@[reducible] noncomputable def SW:Ev.S:=.ret (.bin .add (.ix (.v 0) (.bin .mod (.v 1) (.bi .len (.cons (.v 0) .nil)))) (.bin .mul (.c (.int 6553)) (.bin .fdiv (.v 1) (.bi .len (.cons (.v 0) .nil)))))
@[reducible] noncomputable def N9:Ev.Fn:=⟨2,2,(.cons SV (.cons SW .nil))⟩
@[reducible] noncomputable def SX:Ev.S:=.set 3 (.bin .mod (.bin .add (.bin .mul (.bin .mod (.cl 30 (.cons (.v 0) (.cons (.v 1) .nil))) (.c (.int 2147483563))) (.c (.int 69069))) (.bin .mul (.c (.int 104723)) (.bin .add (.v 1) (.c (.int 1))))) (.c (.int 2147483563)))
@[reducible] noncomputable def SY:Ev.S:=.set 3 (.bin .mod (.bin .add (.bin .mul (.v 3) (.v 3)) (.bin .fdiv (.v 3) (.c (.int 3)))) (.c (.int 2147483399)))
@[reducible] noncomputable def S5:Ev.S:=.ret (.bin .mod (.bin .fdiv (.bin .mod (.bin .add (.bin .mul (.v 3) (.v 3)) (.bin .fdiv (.v 3) (.c (.int 7)))) (.c (.int 2147483647))) (.c (.int 11))) (.v 2))
@[reducible] noncomputable def Oa:Ev.Fn:=⟨3,4,(.cons SX (.cons SY (.cons S5 .nil)))⟩
@[reducible] noncomputable def S6:Ev.S:=.ret (.me .join (.c (.str [])) (.cons (.comp (.ix (.c (.str [97,98,99,32])) (.cl 31 (.cons (.v 0) (.cons (.bin .add (.bin .add (.v 1) (.c (.int 1))) (.v 3)) (.cons (.c (.int 4)) .nil))))) (.one 3) (.gI (.cons (.cl 31 (.cons (.v 0) (.cons (.v 1) (.cons (.bin .add (.v 2) (.c (.int 1))) .nil)))) .nil)) .no) .nil))
@[reducible] noncomputable def f32:Ev.Fn:=⟨3,4,(.cons S6 .nil)⟩
@[reducible] noncomputable def S7:Ev.S:=.set 3 (.tup .nil)
@[reducible] noncomputable def S8:Ev.Ss:=(.cons (.iff (.cmp .eq (.cl 31 (.cons (.v 0) (.cons (.bin .add (.v 1) (.bin .mul (.c (.int 4)) (.v 4))) (.cons (.c (.int 4)) .nil)))) (.c (.int 0))) (.cons (.set 5 (.bin .mul (.ix (.c (.str [97,98,122])) (.cl 31 (.cons (.v 0) (.cons (.bin .add (.bin .add (.v 1) (.bin .mul (.c (.int 4)) (.v 4))) (.c (.int 1))) (.cons (.c (.int 3)) .nil))))) (.bin .add (.c (.int 1)) (.cl 31 (.cons (.v 0) (.cons (.bin .add (.bin .add (.v 1) (.bin .mul (.c (.int 4)) (.v 4))) (.c (.int 2))) (.cons (.c (.int 2)) .nil))))))) (.cons (.set 3 (.bin .add (.v 3) (.tup (.cons (.tup (.cons (.c (.str [112,117,116])) (.cons (.v 5) .nil))) .nil)))) .nil)) .nil) (.cons (.iff (.cmp .lt (.v 4) (.bi .len (.cons (.v 2) .nil))) (.cons (.set 6 (.cmp .gt (.cl 31 (.cons (.v 0) (.cons (.bin .add (.bin .add (.v 1) (.bin .mul (.c (.int 4)) (.v 4))) (.c (.int 3))) (.cons (.c (.int 3)) .nil)))) (.c (.int 0)))) (.cons (.set 3 (.bin .add (.v 3) (.tup (.cons (.iU (.v 6) (.tup (.cons (.c (.str [107,101,101,112])) (.cons (.c (.int 1)) .nil))) (.tup (.cons (.c (.str [100,114,111,112])) (.cons (.ix (.v 2) (.v 4)) .nil)))) .nil)))) .nil)) .nil) .nil))
@[reducible] noncomputable def S9:Ev.S:=.for (.one 4) (.gI (.cons (.bin .add (.bi .len (.cons (.v 2) .nil)) (.c (.int 1))) .nil)) S8
@[reducible] noncomputable def Tc:Ev.S:=.ret (.v 3)
@[reducible] noncomputable def Ob:Ev.Fn:=⟨3,7,(.cons S7 (.cons S9 (.cons Tc .nil)))⟩
@[reducible] noncomputable def Td:Ev.S:=.set 2 (.c (.int 0))
@[reducible] noncomputable def Te:Ev.S:=.set 3 (.c (.str []))
@[reducible] noncomputable def Tf:Ev.Ss:=(.cons (.iff (.cmp .eq (.v 4) (.c (.str [112,117,116]))) (.cons (.set 3 (.bin .add (.v 3) (.v 5))) .nil) (.cons (.iff (.cmp .eq (.v 4) (.c (.str [100,114,111,112]))) (.cons (.iff (.cmp .ne (.sl (.v 1) (.yes (.v 2)) (.yes (.bin .add (.v 2) (.bi .len (.cons (.v 5) .nil))))) (.v 5)) (.cons (.ret (.c (.bz))) .nil) .nil) (.cons (.set 2 (.bin .add (.v 2) (.bi .len (.cons (.v 5) .nil)))) .nil)) (.cons (.set 3 (.bin .add (.v 3) (.sl (.v 1) (.yes (.v 2)) (.yes (.bin .add (.v 2) (.v 5)))))) (.cons (.set 2 (.bin .add (.v 2) (.v 5))) .nil))) .nil)) .nil)
@[reducible] noncomputable def Tg:Ev.S:=.for (.many [4,5]) (.seq (.v 0)) Tf
@[reducible] noncomputable def Ti:Ev.S:=.ret (.iU (.cmp .eq (.v 2) (.bi .len (.cons (.v 1) .nil))) (.v 3) (.c (.bz)))
@[reducible] noncomputable def Oc:Ev.Fn:=⟨2,6,(.cons Td (.cons Te (.cons Tg (.cons Ti .nil))))⟩
@[reducible] noncomputable def G6:Ev.S:=.iff (.cmp .eq (.cl 31 (.cons (.v 0) (.cons (.bin .add (.v 1) (.c (.int 60))) (.cons (.c (.int 5)) .nil)))) (.c (.int 0))) (.cons (.ret (.iU (.cmp .ne (.v 2) (.c (.str []))) (.tup (.cons (.tup (.cons (.c (.str [107,101,101,112])) (.cons (.bi .len (.cons (.v 2) .nil)) .nil))) .nil)) (.tup .nil))) .nil) .nil
@[reducible] noncomputable def AO:Ev.S:=.iff (.cmp .lt (.bi .len (.cons (.v 2) .nil)) (.c (.int 7))) (.cons (.ret (.cl 33 (.cons (.v 0) (.cons (.v 1) (.cons (.v 2) .nil))))) .nil) .nil
@[reducible] noncomputable def AQ:Ev.S:=.set 3 (.cl 31 (.cons (.v 0) (.cons (.bin .add (.v 1) (.c (.int 61))) (.cons (.bin .sub (.bi .len (.cons (.v 2) .nil)) (.c (.int 3))) .nil))))
@[reducible] noncomputable def AR:Ev.S:=.set 4 (.iU (.cmp .gt (.v 3) (.c (.int 0))) (.tup (.cons (.tup (.cons (.c (.str [107,101,101,112])) (.cons (.v 3) .nil))) .nil)) (.tup .nil))
@[reducible] noncomputable def AS:Ev.S:=.set 5 (.bin .sub (.bin .sub (.bi .len (.cons (.v 2) .nil)) (.v 3)) (.c (.int 3)))
@[reducible] noncomputable def AU:Ev.S:=.ret (.bin .add (.bin .add (.v 4) (.cl 33 (.cons (.v 0) (.cons (.v 1) (.cons (.sl (.v 2) (.yes (.v 3)) (.yes (.bin .add (.v 3) (.c (.int 3))))) .nil))))) (.iU (.cmp .gt (.v 5) (.c (.int 0))) (.tup (.cons (.tup (.cons (.c (.str [107,101,101,112])) (.cons (.v 5) .nil))) .nil)) (.tup .nil)))
@[reducible] noncomputable def pH:Ev.Fn:=⟨3,6,(.cons G6 (.cons AO (.cons AQ (.cons AR (.cons AS (.cons AU .nil))))))⟩
@[reducible] noncomputable def Tj:Ev.S:=.set 4 (.lst .nil)
@[reducible] noncomputable def To:Ev.Ss:=(.cons (.set 6 (.ix (.lst (.cons (.c (.str [97,110,110])) (.cons (.c (.str [98,111])) (.cons (.c (.str [97,110,110])) (.cons (.c (.str [99])) .nil))))) (.cl 31 (.cons (.v 0) (.cons (.bin .add (.bin .add (.v 1) (.c (.int 1))) (.bin .mul (.c (.int 70)) (.v 5))) (.cons (.c (.int 4)) .nil)))))) (.cons (.set 7 (.cl 35 (.cons (.v 0) (.cons (.bin .add (.bin .add (.v 1) (.c (.int 2))) (.bin .mul (.c (.int 70)) (.v 5))) (.cons (.v 2) .nil))))) (.cons (.set 2 (.cl 34 (.cons (.v 7) (.cons (.v 2) .nil)))) (.cons (.exp (.me .append (.v 4) (.cons (.tup (.cons (.v 6) (.cons (.v 7) .nil))) .nil))) .nil))))
@[reducible] noncomputable def Tp:Ev.S:=.for (.one 5) (.gI (.cons (.cl 31 (.cons (.v 0) (.cons (.v 1) (.cons (.bin .add (.v 3) (.c (.int 1))) .nil)))) .nil)) To
@[reducible] noncomputable def Tt:Ev.S:=.ret (.v 4)
@[reducible] noncomputable def xK:Ev.Fn:=⟨4,8,(.cons Tj (.cons Tp (.cons Tt .nil)))⟩
@[reducible] noncomputable def Tu:Ev.S:=.set 1 (.cl 32 (.cons (.v 0) (.cons (.c (.int 0)) (.cons (.c (.int 4)) .nil))))
@[reducible] noncomputable def Tv:Ev.S:=.set 2 (.comp (.v 8) (.one 8) (.seq (.cl 36 (.cons (.v 0) (.cons (.c (.int 20)) (.cons (.v 1) (.cons (.c (.int 4)) .nil)))))) .no)
@[reducible] noncomputable def G7:Ev.Ss:=(.cons (.set 2 (.sl (.v 2) .no (.yes (.neg (.c (.int 1)))))) .nil)
@[reducible] noncomputable def G8:Ev.S:=.oU (.cmp .ne (.comp (.v 10) (.many [9,10]) (.seq (.v 2)) (.yes (.nt (.cl 0 (.cons (.v 10) .nil))))) (.lst .nil)) G7
@[reducible] noncomputable def AV:Ev.S:=.set 3 (.comp (.v 11) (.one 11) (.seq (.cl 29 (.cons (.v 2) .nil))) (.yes (.cl 0 (.cons (.ix (.v 11) (.c (.int 1))) .nil))))
@[reducible] noncomputable def AW:Ev.Ss:=(.cons (.set 5 (.cl 16 (.cons (.v 4) .nil))) (.cons (.iff (.orr (.cmp .ne (.cl 17 (.cons (.v 5) .nil)) (.v 4)) (.cmp .ne (.bi .len (.cons (.gp (.jV (.v 5) (.c (.str [10])))) .nil)) (.bin .add (.bi .len (.cons (.v 4) .nil)) (.c (.int 1))))) (.cons (.ret (.c (.bl false))) .nil) .nil) (.cons (.set 6 (.cl 31 (.cons (.v 0) (.cons (.c (.int 10)) (.cons (.bin .add (.bi .len (.cons (.v 4) .nil)) (.c (.int 1))) .nil))))) (.cons (.iff (.cmp .ne (.bin .add (.cl 16 (.cons (.sl (.v 4) .no (.yes (.v 6))) .nil)) (.cl 16 (.cons (.sl (.v 4) (.yes (.v 6)) .no) .nil))) (.v 5)) (.cons (.ret (.c (.bl false))) .nil) .nil) (.cons (.set 7 (.me .join (.c (.str [])) (.cons (.comp (.bin .add (.sl (.v 12) (.yes (.bin .add (.me .idxs (.v 12) (.cons (.c (.str [58,32])) .nil)) (.c (.int 2)))) .no) (.c (.str [10]))) (.one 12) (.seq (.sl (.gp (.jV (.v 5) (.c (.str [10])))) .no (.yes (.neg (.c (.int 1)))))) .no) .nil))) (.cons (.iff (.cmp .ne (.v 7) (.cl 11 (.cons (.comp (.v 14) (.many [13,14]) (.seq (.v 4)) .no) .nil))) (.cons (.ret (.c (.bl false))) .nil) .nil) .nil))))))
@[reducible] noncomputable def AX:Ev.S:=.for (.one 4) (.seq (.tup (.cons (.v 2) (.cons (.v 3) (.cons (.bin .add (.v 2) (.v 3)) (.cons (.rv (.v 2)) .nil)))))) AW
@[reducible] noncomputable def AY:Ev.S:=.iff (.cmp .ne (.cmp .eq (.cl 16 (.cons (.v 2) .nil)) (.cl 16 (.cons (.v 3) .nil))) (.cmp .eq (.v 2) (.v 3))) (.cons (.ret (.c (.bl false))) .nil) .nil
@[reducible] noncomputable def AZ:Ev.S:=.ret (.cmp .eq (.cl 26 (.cons (.v 1) (.cons (.cl 17 (.cons (.cl 16 (.cons (.v 2) .nil)) .nil)) .nil))) (.cl 26 (.cons (.v 1) (.cons (.v 2) .nil))))
@[reducible] noncomputable def Di:Ev.Fn:=⟨1,15,(.cons Tu (.cons Tv (.cons G8 (.cons AV (.cons AX (.cons AY (.cons AZ .nil)))))))⟩
noncomputable def prog:List Ev.Fn:=[f0,f1,f2,f3,f4,f5,f6,f7,f8,f9,BQ,NR,NS,NT,NU,NV,NX,NY,NZ,N1,N3,N4,N5,N6,N7,N8,Dh,xG,xH,xJ,N9,Oa,f32,Ob,Oc,pH,xK,Di]
end Lw
namespace Lw
open PySem PySem.Spec PyProof.Rows L2 Sm
open Ev (D O Hh Fr R aP E Es Eo T S Ss Fl Src bJ bx TY BI ME)
noncomputable def top(i:Nat):Stmt:=PySem.Challenge.pw_pastways_k94_whole_owned_texts.main.body.getD i (.Pass ⟨0,0,0,0⟩)
abbrev i0 (a:Nat->Addr) (d:Nat->FuncData):FI:=⟨"is_change",a 0,d 0,["thing"]⟩
abbrev i1 (a:Nat->Addr) (d:Nat->FuncData):FI:=⟨"is_part",a 1,d 1,["thing"]⟩
abbrev i2 (a:Nat->Addr) (d:Nat->FuncData):FI:=⟨"is_kept",a 2,d 2,["thing"]⟩
abbrev i3 (a:Nat->Addr) (d:Nat->FuncData):FI:=⟨"is_some",a 3,d 3,["thing"]⟩
abbrev i4 (a:Nat->Addr) (d:Nat->FuncData):FI:=⟨"size",a 4,d 4,["part"]⟩
abbrev i5 (a:Nat->Addr) (d:Nat->FuncData):FI:=⟨"before",a 5,d 5,["change"]⟩
abbrev i6 (a:Nat->Addr) (d:Nat->FuncData):FI:=⟨"after",a 6,d 6,["change"]⟩
abbrev i7 (a:Nat->Addr) (d:Nat->FuncData):FI:=⟨"cost",a 7,d 7,["change"]⟩
abbrev i8 (a:Nat->Addr) (d:Nat->FuncData):FI:=⟨"form",a 8,d 8,["change"]⟩
abbrev i9 (a:Nat->Addr) (d:Nat->FuncData):FI:=⟨"stretch",a 9,d 9,["kept","gone","new"]⟩
abbrev Od (a:Nat->Addr) (d:Nat->FuncData):FI:=⟨"change_text",a 10,d 10,["change"]⟩
abbrev Oe (a:Nat->Addr) (d:Nat->FuncData):FI:=⟨"rows_text",a 11,d 11,["rows"]⟩
abbrev i12 (a:Nat->Addr) (d:Nat->FuncData):FI:=⟨"read_change",a 12,d 12,["text"]⟩
abbrev Of (a:Nat->Addr) (d:Nat->FuncData):FI:=⟨"read_part",a 13,d 13,["text"]⟩
abbrev Og (a:Nat->Addr) (d:Nat->FuncData):FI:=⟨"read_number",a 14,d 14,["text"]⟩
abbrev Oh (a:Nat->Addr) (d:Nat->FuncData):FI:=⟨"lines_of",a 15,d 15,["text"]⟩
abbrev Oi (a:Nat->Addr) (d:Nat->FuncData):FI:=⟨"owned_text",a 16,d 16,["rows"]⟩
abbrev Oj (a:Nat->Addr) (d:Nat->FuncData):FI:=⟨"read_owned",a 17,d 17,["text"]⟩
abbrev Ol (a:Nat->Addr) (d:Nat->FuncData):FI:=⟨"read_line",a 18,d 18,["line"]⟩
abbrev Om (a:Nat->Addr) (d:Nat->FuncData):FI:=⟨"is_name",a 19,d 19,["text"]⟩
abbrev Oo (a:Nat->Addr) (d:Nat->FuncData):FI:=⟨"fits",a 20,d 20,["change","text"]⟩
abbrev Oq (a:Nat->Addr) (d:Nat->FuncData):FI:=⟨"done",a 21,d 21,["change","text"]⟩
abbrev Ot (a:Nat->Addr) (d:Nat->FuncData):FI:=⟨"then",a 22,d 22,["one","other"]⟩
abbrev Ou (a:Nat->Addr) (d:Nat->FuncData):FI:=⟨"met",a 23,d 23,["left","gone_through"]⟩
abbrev Ov (a:Nat->Addr) (d:Nat->FuncData):FI:=⟨"taken",a 24,d 24,["parts","many"]⟩
abbrev Ow (a:Nat->Addr) (d:Nat->FuncData):FI:=⟨"parted",a 25,d 25,["part","many"]⟩
abbrev Ox (a:Nat->Addr) (d:Nat->FuncData):FI:=⟨"owners",a 26,d 26,["text","rows"]⟩
abbrev Oz (a:Nat->Addr) (d:Nat->FuncData):FI:=⟨"traced",a 27,d 27,["text","rows"]⟩
abbrev OA (a:Nat->Addr) (d:Nat->FuncData):FI:=⟨"traced_once",a 28,d 28,["standing","own","change"]⟩
abbrev OB (a:Nat->Addr) (d:Nat->FuncData):FI:=⟨"squeezed",a 29,d 29,["rows"]⟩
abbrev OC (a:Nat->Addr) (d:Nat->FuncData):FI:=⟨"_law_cell",a 30,d 30,["_law_script","_law_k"]⟩
abbrev OD (a:Nat->Addr) (d:Nat->FuncData):FI:=⟨"_law_drawn",a 31,d 31,["_law_script","_law_k","_law_many"]⟩
abbrev OE (a:Nat->Addr) (d:Nat->FuncData):FI:=⟨"_law_text",a 32,d 32,["_law_script","_law_at","_law_most"]⟩
abbrev OF (a:Nat->Addr) (d:Nat->FuncData):FI:=⟨"_law_change",a 33,d 33,["_law_script","_law_at","_law_text_here"]⟩
abbrev OG (a:Nat->Addr) (d:Nat->FuncData):FI:=⟨"_law_made",a 34,d 34,["_law_change_here","_law_text_here"]⟩
abbrev OH (a:Nat->Addr) (d:Nat->FuncData):FI:=⟨"_law_small",a 35,d 35,["_law_script","_law_at","_law_text_here"]⟩
abbrev OI (a:Nat->Addr) (d:Nat->FuncData):FI:=⟨"_law_rows",a 36,d 36,["_law_script","_law_at","_law_text_here","_law_most"]⟩
abbrev G9 (a:Nat->Addr) (d:Nat->FuncData):FI:=⟨"law",a 37,d 37,["_law_script"]⟩
noncomputable def kN:List Str:=["all","bool","int","isinstance","len","list","min","range","reversed","str","sum","tuple"]
def Tw:("all" : Str)∈kN:=by decide +kernel
def OJ:("bool" : Str)∈kN:=by decide +kernel
def Hf:("int" : Str)∈kN:=by decide +kernel
def iS:("isinstance" : Str)∈kN:=by decide +kernel
def Tz:("len" : Str)∈kN:=by decide +kernel
def OL:("list" : Str)∈kN:=by decide +kernel
def TF:("min" : Str)∈kN:=by decide +kernel
def zz:("range" : Str)∈kN:=by decide +kernel
def A3:("reversed" : Str)∈kN:=by decide +kernel
def Hg:("str" : Str)∈kN:=by decide +kernel
def TH:("sum" : Str)∈kN:=by decide +kernel
def zA:("tuple" : Str)∈kN:=by decide +kernel
noncomputable def tb (a:Nat->Addr) (d:Nat->FuncData):Tb:=⟨prog,100000,[i0 a d,i1 a d,i2 a d,i3 a d,i4 a d,i5 a d,i6 a d,i7 a d,i8 a d,i9 a d,Od a d,Oe a d,i12 a d,Of a d,Og a d,Oh a d,Oi a d,Oj a d,Ol a d,Om a d,Oo a d,Oq a d,Ot a d,Ou a d,Ov a d,Ow a d,Ox a d,Oz a d,OA a d,OB a d,OC a d,OD a d,OE a d,OF a d,OG a d,OH a d,OI a d,G9 a d],kN,[("__name__",.str [108,97,119,95,112,97,115,116,119,97,121,115,95,107,57,52,95,119,104,111,108,101,95,111,119,110,101,100,95,116,101,120,116,115]),("SIGNS",.str [97,98,99,100,101,102,103,104,105,106,107,108,109,110,111,112,113,114,115,116,117,118,119,120,121,122,32]),("MOST_KEPT",.int 99),("MOST_SIGNS",.int 8),("MOST_PARTS",.int 12),("LETTERS",.str [97,98,99,100,101,102,103,104,105,106,107,108,109,110,111,112,113,114,115,116,117,118,119,120,121,122]),("MOST_LETTERS",.int 6),("BETWEEN",.str [58,32])],[("MARKS",[(.str [107,101,101,112],.str [61]),(.str [112,117,116],.str [43]),(.str [100,114,111,112],.str [45])]),("WORDS",[(.str [61],.str [107,101,101,112]),(.str [43],.str [112,117,116]),(.str [45],.str [100,114,111,112])])]⟩
section
variable{a:Nat->Addr}{d:Nat->FuncData}{n:Nat}
abbrev n0:List Str:=["thing"]
def s0:aY n0 ["thing"] (aH (top 9)):=⟨rfl,rfl,rfl,by decide +kernel,rfl,by decide +kernel,by decide +kernel⟩
abbrev n1:List Str:=["thing"]
def s1:aY n1 ["thing"] (aH (top 10)):=⟨rfl,rfl,rfl,by decide +kernel,rfl,by decide +kernel,by decide +kernel⟩
abbrev n2:List Str:=["thing"]
def s2:aY n2 ["thing"] (aH (top 11)):=⟨rfl,rfl,rfl,by decide +kernel,rfl,by decide +kernel,by decide +kernel⟩
abbrev n3:List Str:=["thing"]
def s3:aY n3 ["thing"] (aH (top 12)):=⟨rfl,rfl,rfl,by decide +kernel,rfl,by decide +kernel,by decide +kernel⟩
abbrev n4:List Str:=["part"]
def s4:aY n4 ["part"] (aH (top 13)):=⟨rfl,rfl,rfl,by decide +kernel,rfl,by decide +kernel,by decide +kernel⟩
abbrev n5:List Str:=["change"]
def s5:aY n5 ["change"] (aH (top 14)):=⟨rfl,rfl,rfl,by decide +kernel,rfl,by decide +kernel,by decide +kernel⟩
abbrev n6:List Str:=["change"]
def s6:aY n6 ["change"] (aH (top 15)):=⟨rfl,rfl,rfl,by decide +kernel,rfl,by decide +kernel,by decide +kernel⟩
abbrev n7:List Str:=["change"]
def s7:aY n7 ["change"] (aH (top 16)):=⟨rfl,rfl,rfl,by decide +kernel,rfl,by decide +kernel,by decide +kernel⟩
abbrev n8:List Str:=["change","parts","kept","gone","new","word","what"]
def s8:aY n8 ["change"] (aH (top 17)):=⟨rfl,rfl,rfl,by decide +kernel,rfl,by decide +kernel,by decide +kernel⟩
abbrev n9:List Str:=["kept","gone","new","parts"]
def s9:aY n9 ["kept","gone","new"] (aH (top 18)):=⟨rfl,rfl,rfl,by decide +kernel,rfl,by decide +kernel,by decide +kernel⟩
abbrev OM:List Str:=["change"]
def Ua:aY OM ["change"] (aH (top 22)):=⟨rfl,rfl,rfl,by decide +kernel,rfl,by decide +kernel,by decide +kernel⟩
abbrev ON:List Str:=["rows"]
def Gw:aY ON ["rows"] (aH (top 23)):=⟨rfl,rfl,rfl,by decide +kernel,rfl,by decide +kernel,by decide +kernel⟩
abbrev OO:List Str:=["text","change"]
def s12:aY OO ["text"] (aH (top 24)):=⟨rfl,rfl,rfl,by decide +kernel,rfl,by decide +kernel,by decide +kernel⟩
abbrev OP:List Str:=["text","word"]
def YA:aY OP ["text"] (aH (top 25)):=⟨rfl,rfl,rfl,by decide +kernel,rfl,by decide +kernel,by decide +kernel⟩
abbrev OQ:List Str:=["text"]
def YB:aY OQ ["text"] (aH (top 26)):=⟨rfl,rfl,rfl,by decide +kernel,rfl,by decide +kernel,by decide +kernel⟩
abbrev OR:List Str:=["text","lines"]
def YC:aY OR ["text"] (aH (top 27)):=⟨rfl,rfl,rfl,by decide +kernel,rfl,by decide +kernel,by decide +kernel⟩
abbrev OS:List Str:=["rows"]
def YD:aY OS ["rows"] (aH (top 32)):=⟨rfl,rfl,rfl,by decide +kernel,rfl,by decide +kernel,by decide +kernel⟩
abbrev OT:List Str:=["text"]
def YE:aY OT ["text"] (aH (top 33)):=⟨rfl,rfl,rfl,by decide +kernel,rfl,by decide +kernel,by decide +kernel⟩
abbrev OU:List Str:=["line","pieces"]
def YF:aY OU ["line"] (aH (top 34)):=⟨rfl,rfl,rfl,by decide +kernel,rfl,by decide +kernel,by decide +kernel⟩
abbrev OV:List Str:=["text"]
def YG:aY OV ["text"] (aH (top 35)):=⟨rfl,rfl,rfl,by decide +kernel,rfl,by decide +kernel,by decide +kernel⟩
abbrev OW:List Str:=["change","text","place","part"]
def YH:aY OW ["change","text"] (aH (top 37)):=⟨rfl,rfl,rfl,by decide +kernel,rfl,by decide +kernel,by decide +kernel⟩
abbrev OX:List Str:=["change","text","pieces","place","word","what"]
def YI:aY OX ["change","text"] (aH (top 38)):=⟨rfl,rfl,rfl,by decide +kernel,rfl,by decide +kernel,by decide +kernel⟩
abbrev OY:List Str:=["one","other","ones","others","parts","many"]
def YJ:aY OY ["one","other"] (aH (top 39)):=⟨rfl,rfl,rfl,by decide +kernel,rfl,by decide +kernel,by decide +kernel⟩
abbrev OZ:List Str:=["left","gone_through"]
def YK:aY OZ ["left","gone_through"] (aH (top 40)):=⟨rfl,rfl,rfl,by decide +kernel,rfl,by decide +kernel,by decide +kernel⟩
abbrev O0:List Str:=["parts","many","halves"]
def YL:aY O0 ["parts","many"] (aH (top 41)):=⟨rfl,rfl,rfl,by decide +kernel,rfl,by decide +kernel,by decide +kernel⟩
abbrev O1:List Str:=["part","many","word"]
def YM:aY O1 ["part","many"] (aH (top 42)):=⟨rfl,rfl,rfl,by decide +kernel,rfl,by decide +kernel,by decide +kernel⟩
abbrev O2:List Str:=["text","rows"]
def YN:aY O2 ["text","rows"] (aH (top 44)):=⟨rfl,rfl,rfl,by decide +kernel,rfl,by decide +kernel,by decide +kernel⟩
abbrev O3:List Str:=["text","rows","now","standing","gone","own","change","both"]
def YO:aY O3 ["text","rows"] (aH (top 45)):=⟨rfl,rfl,rfl,by decide +kernel,rfl,by decide +kernel,by decide +kernel⟩
abbrev O4:List Str:=["standing","own","change","left","gone","place","part","names"]
def YQ:aY O4 ["standing","own","change"] (aH (top 46)):=⟨rfl,rfl,rfl,by decide +kernel,rfl,by decide +kernel,by decide +kernel⟩
abbrev O5:List Str:=["rows","kept","own","change","whole"]
def YR:aY O5 ["rows"] (aH (top 48)):=⟨rfl,rfl,rfl,by decide +kernel,rfl,by decide +kernel,by decide +kernel⟩
abbrev O6:List Str:=["_law_script","_law_k"]
def YS:aY O6 ["_law_script","_law_k"] (aH (top 50)):=⟨rfl,rfl,rfl,by decide +kernel,rfl,by decide +kernel,by decide +kernel⟩
abbrev O7:List Str:=["_law_script","_law_k","_law_many","_law_cell_here"]
def YT:aY O7 ["_law_script","_law_k","_law_many"] (aH (top 51)):=⟨rfl,rfl,rfl,by decide +kernel,rfl,by decide +kernel,by decide +kernel⟩
abbrev n32:List Str:=["_law_script","_law_at","_law_most"]
def YU:aY n32 ["_law_script","_law_at","_law_most"] (aH (top 52)):=⟨rfl,rfl,rfl,by decide +kernel,rfl,by decide +kernel,by decide +kernel⟩
abbrev O8:List Str:=["_law_script","_law_at","_law_text_here","_law_found","_law_k","_law_new","_law_is_kept"]
def YV:aY O8 ["_law_script","_law_at","_law_text_here"] (aH (top 53)):=⟨rfl,rfl,rfl,by decide +kernel,rfl,by decide +kernel,by decide +kernel⟩
abbrev O9:List Str:=["_law_change_here","_law_text_here","_law_place","_law_found","_law_word","_law_what"]
def YW:aY O9 ["_law_change_here","_law_text_here"] (aH (top 54)):=⟨rfl,rfl,rfl,by decide +kernel,rfl,by decide +kernel,by decide +kernel⟩
abbrev Pa:List Str:=["_law_script","_law_at","_law_text_here","_law_place","_law_here","_law_rest"]
def YX:aY Pa ["_law_script","_law_at","_law_text_here"] (aH (top 55)):=⟨rfl,rfl,rfl,by decide +kernel,rfl,by decide +kernel,by decide +kernel⟩
abbrev Pb:List Str:=["_law_script","_law_at","_law_text_here","_law_most","_law_found","_law_k","_law_own","_law_change_here"]
def YY:aY Pb ["_law_script","_law_at","_law_text_here","_law_most"] (aH (top 56)):=⟨rfl,rfl,rfl,by decide +kernel,rfl,by decide +kernel,by decide +kernel⟩
abbrev Pc:List Str:=["_law_script","_law_text_here","_law_rows_here","_law_few","_law_some","_law_written","_law_at","_law_bare"]
def YZ:aY Pc ["_law_script"] (aH (top 57)):=⟨rfl,rfl,rfl,by decide +kernel,rfl,by decide +kernel,by decide +kernel⟩
set_option maxHeartbeats 0 in
def cG:allB (tb a d) n [(f0.body,top 9,n0),(f1.body,top 10,n1),(f2.body,top 11,n2),(f3.body,top 12,n3),(f4.body,top 13,n4),(f5.body,top 14,n5),(f6.body,top 15,n6),(f7.body,top 16,n7),(f8.body,top 17,n8),(f9.body,top 18,n9),(BQ.body,top 22,OM),(NR.body,top 23,ON),(NS.body,top 24,OO),(NT.body,top 25,OP),(NU.body,top 26,OQ),(NV.body,top 27,OR),(NX.body,top 32,OS),(NY.body,top 33,OT),(NZ.body,top 34,OU),(N1.body,top 35,OV),(N3.body,top 37,OW),(N4.body,top 38,OX),(N5.body,top 39,OY),(N6.body,top 40,OZ),(N7.body,top 41,O0),(N8.body,top 42,O1),(Dh.body,top 44,O2),(xG.body,top 45,O3),(xH.body,top 46,O4),(xJ.body,top 48,O5),(N9.body,top 50,O6),(Oa.body,top 51,O7),(f32.body,top 52,n32),(Ob.body,top 53,O8),(Oc.body,top 54,O9),(pH.body,top 55,Pa),(xK.body,top 56,Pb),(Di.body,top 57,Pc)]:=by
 refine⟨?_,?_,?_,?_,?_,?_,?_,?_,?_,?_,?_,?_,?_,?_,?_,?_,?_,?_,?_,?_,?_,?_,?_,?_,?_,?_,?_,?_,?_,?_,?_,?_,?_,?_,?_,?_,?_,?_,trivial⟩;all_goals try dsimp only
 all_goals repeat (first
  | ((with_reducible show JE _ _ _ _ _ _ _ (.BoolOp _ [_] _));refine Lc ?_)
  | ((with_reducible show JE _ _ _ _ _ _ (.c _) (.Name _ _));refine iX (x:="MOST_KEPT") (.tail _ (.tail _ (.head _))))
  | ((with_reducible show JE _ _ _ _ _ _ (.c _) (.Name _ _));refine iX (x:="BETWEEN") (.tail _ (.tail _ (.tail _ (.tail _ (.tail _ (.tail _ (.tail _ (.head _)))))))))
  | ((with_reducible show JE _ _ _ _ _ _ (.c _) (.Name _ _));refine iX (x:="MOST_PARTS") (.tail _ (.tail _ (.tail _ (.tail _ (.head _))))))
  | ((with_reducible show JE _ _ _ _ _ _ (.c _) (.Name _ _));refine iX (x:="MOST_SIGNS") (.tail _ (.tail _ (.tail _ (.head _)))))
  | ((with_reducible show JE _ _ _ _ _ _ (.c _) (.Name _ _));refine iX (x:="SIGNS") (.tail _ (.head _)))
  | ((with_reducible show JT _ _ _ _ _ _ (.cmp .fq _ _) _);refine Mf (x:="WORDS") (.tail _ (.head _)) ?_)
  | ((with_reducible show JE _ _ _ _ _ _ (.c _) (.Name _ _));refine iX (x:="MOST_LETTERS") (.tail _ (.tail _ (.tail _ (.tail _ (.tail _ (.tail _ (.head _))))))))
  | ((with_reducible show JE _ _ _ _ _ _ (.c _) (.Name _ _));refine iX (x:="LETTERS") (.tail _ (.tail _ (.tail _ (.tail _ (.tail _ (.head _)))))))
  | ((with_reducible show JE _ _ _ _ _ _ (.v _) _);exact jv (by decide +kernel))
  | ((with_reducible show JA _ _ _ _ _ _ (.cons _ _) _);refine HU ?_ ?_)
  | ((with_reducible show mX _ _ _ _ _ _ (.cons _ _) _);refine DT ?_ ?_)
  | ((with_reducible show JA _ _ _ _ _ _ .nil _);refine K9)
  | ((with_reducible show mX _ _ _ _ _ _ .nil _);refine Ib)
  | ((with_reducible show JE _ _ _ _ _ _ (.c (.int _)) _);refine Bw)
  | ((with_reducible show JE _ _ _ _ _ _ (.cl _ _) _);refine X7 (by decide +kernel) rfl rfl ?_)
  | ((with_reducible show JE _ _ _ _ _ _ (.c (.str _)) _);refine K8)
  | ((with_reducible show JS _ _ _ _ _ _ (.ret _) _);refine Ls ?_)
  | ((with_reducible show JE _ _ _ _ _ _ (.bin .add _ _) _);refine nh (λX g=>LL) ?_ ?_)
  | ((with_reducible show JS _ _ _ _ _ _ (.iff _ _ _) _);refine Lv ?_ ?_ ?_)
  | ((with_reducible show JE _ _ _ _ _ _ (.ix _ _) _);refine QD (λX g=>QN) ?_ ?_)
  | ((with_reducible show JE _ _ _ _ _ _ (.tup _) _);refine La ?_)
  | ((with_reducible show JI _ _ _ _ _ _ (.seq _) _ _);refine Lo ?_)
  | ((with_reducible show JT _ _ _ _ _ _ (.cmp .eq _ _) _);refine ni (λX g=>GG g) ?_ ?_ (lE _))
  | ((with_reducible show JO _ _ _ _ _ _ (.yes _) _);refine Lk ?_)
  | ((with_reducible show JE _ _ _ _ _ _ (.bi .len _) _);refine uN (x:="len") (id:="len") (λX g=>LY) ?_ (hb:=Tz) (hv:=by decide +kernel))
  | ((with_reducible show JG _ _ _ _ _ _ (.one _) _);exact X5 (by decide +kernel))
  | ((with_reducible show JT _ _ _ _ _ _ (.cmp .ne _ _) _);refine ni (λX g=>QK g) ?_ ?_ (lE _))
  | ((with_reducible show tQ _ _ _ _ _ _ (_ :: _) _);refine X6 (by decide +kernel) ?_)
  | ((with_reducible show JE _ _ _ _ _ _ (.comp _ _ _ _) _);refine QV (by decide +kernel) (by decide +kernel) ?_ ?_ ?_ ?_)
  | ((with_reducible show JS _ _ _ _ _ _ (.exp _) _);refine Lr ?_)
  | ((with_reducible show JE _ _ _ _ _ _ (.sl _ _ _) _);refine QF (λX g=>LU) ?_ ?_ ?_)
  | ((with_reducible show JC _ _ _ _ _ _ .no _);refine QH)
  | ((with_reducible show JE _ _ _ _ _ _ (.lst _) _);refine Lb ?_)
  | ((with_reducible show JE _ _ _ _ _ _ (.bin .mul _ _) _);refine nh (λX g=>LV) ?_ ?_)
  | ((with_reducible show JO _ _ _ _ _ _ .no _);refine QE)
  | ((with_reducible show JS _ _ _ _ _ _ (.for _ _ _) _);refine Ly ?_ ?_ ?_)
  | ((with_reducible show JE _ _ _ _ _ _ (.me .append _ (.cons _ _)) _);refine qo abE PySem.F.slot_list_append PySem.F.type_list_append (λX g=>BX) rfl ?_ ?_)
  | ((with_reducible show JT _ _ _ _ _ _ (.nt _) _);refine QC ?_)
  | ((with_reducible show JE _ _ _ _ _ _ (.c (.bl _)) _);refine Qw)
  | ((with_reducible show JG _ _ _ _ _ _ (.many _) _);refine Ia ?_)
  | ((with_reducible show tQ _ _ _ _ _ _ [] _);refine HZ)
  | ((with_reducible show JT _ _ _ _ _ _ (.orr _ _) _);refine Wr ?_ ?_)
  | ((with_reducible show JW _ _ _ _ _ _ (.orr _ _) (.BoolOp _ (_ :: _ :: _) _));refine By ?_ ?_)
  | ((with_reducible show JW _ _ _ _ _ _ _ (.BoolOp .Or [_] _));refine HV ?_)
  | ((with_reducible show JS _ _ _ _ _ _ (.eS _) _);refine L3)
  | ((with_reducible show JT _ _ _ _ _ _ (.cmp .gt _ _) _);refine ni (λX g=>GH) ?_ ?_ (lE _))
  | ((with_reducible show JE _ _ _ _ _ _ (.me .extend _ (.cons _ _)) _);refine qo abE PySem.F.slot_list_extend PySem.F.type_list_extend (λX g=>BY) rfl ?_ ?_)
  | ((with_reducible show JE _ _ _ _ _ _ (.neg _) _);refine Bx ?_)
  | ((with_reducible show JE _ _ _ _ _ _ (.me .join _ (.cons _ _)) _);refine qo abN PySem.F.slot_str_join PySem.F.type_str_join (λX g=>Ir) rfl ?_ ?_)
  | ((with_reducible show JE _ _ _ _ _ _ (.bin .mod _ _) _);refine nh (λX g=>LN) ?_ ?_)
  | ((with_reducible show JC _ _ _ _ _ _ (.yes _) _);refine Lz ?_)
  | ((with_reducible show JE _ _ _ _ _ _ (.me .pop _ .nil) _);refine Ll abE PySem.F.slot_list_pop PySem.F.type_list_pop (λX g=>L0) rfl ?_)
  | ((with_reducible show JE _ _ _ _ _ _ (.iU _ _ _) _);refine Ld ?_ ?_ ?_)
  | ((with_reducible show JE _ _ _ _ _ _ (.gp (.jV _ _)) _);refine Ed ?_ ?_)
  | ((with_reducible show JT _ _ _ _ _ _ (.an _ _) _);refine Wq ?_ ?_)
  | ((with_reducible show JW _ _ _ _ _ _ (.an _ _) (.BoolOp _ (_ :: _ :: _) _));refine Gp ?_ ?_)
  | ((with_reducible show JW _ _ _ _ _ _ _ (.BoolOp .And [_] _));refine Lf ?_)
  | ((with_reducible show JE _ _ _ _ _ _ (.cmp .eq _ _) _);refine vA (λX g=>GG g) ?_ ?_ (lE _))
  | ((with_reducible show JE _ _ _ _ _ _ (.bin .sub _ _) _);refine nh (λX g=>LM) ?_ ?_)
  | ((with_reducible show JE _ _ _ _ _ _ (.bin .fdiv _ _) _);refine nh (λX g=>Il) ?_ ?_)
  | ((with_reducible show JE _ _ _ _ _ _ (.bi .all _) _);refine uN (x:="all") (id:="all") (λX g=>LW g) ?_ (hb:=Tw) (hv:=by decide +kernel))
  | ((with_reducible show JE _ _ _ _ _ _ (.cmp .isin _ _) _);refine vA (λX g=>QM g) ?_ ?_ (by with_unfolding_all rfl))
  | ((with_reducible show JE _ _ _ _ _ _ (.bi .sum _) _);refine uN (x:="sum") (id:="sum") (λX g=>LX g) ?_ (hb:=TH) (hv:=by decide +kernel))
  | ((with_reducible show JE _ _ _ _ _ _ (.jA _) _);refine L1 ?_ (h1:=zA))
  | ((with_reducible show JS _ _ _ _ _ _ (.set _ (.comp _ _ _ _)) _);refine QW (by decide +kernel) (by decide +kernel) (by decide +kernel) ?_ ?_ ?_ ?_)
  | ((with_reducible show JE _ _ _ _ _ _ (.c .bz) _);refine K7)
  | ((with_reducible show JI _ _ _ _ _ _ (.gI (.cons _ .nil)) _ _);refine HX ?_ (hb:=zz))
  | ((with_reducible show JE _ _ _ _ _ _ (.gx _ [.tuple]) _);refine qs (t:=.tuple) (T:="tuple") ?_ (by decide +kernel) (h1:=iS) (h2:=zA))
  | ((with_reducible show JE _ _ _ _ _ _ (.an _ _) (.BoolOp _ (_ :: _ :: _) _));refine QB ?_ ?_)
  | ((with_reducible show JE _ _ _ _ _ _ (.ch _ _ _ _ _) _);refine Qx (λX g=>uP) (λX g=>uP) ?_ ?_ ?_)
  | ((with_reducible show JE _ _ _ _ _ _ (.bi .gO _) _);refine Gq (x:="str") (id:="str") (λX g=>IA) ?_ (hb:=Hg) (hv:=by decide +kernel))
  | ((with_reducible show JE _ _ _ _ _ _ (.gp (.rev _)) _);refine Iw ?_ (h1:=OL) (hb:=A3))
  | ((with_reducible show JS _ _ _ _ _ _ (.oU _ _) _);refine Lx ?_ ?_)
  | ((with_reducible show JT _ _ _ _ _ _ (.cmp .lt _ _) _);refine ni (λX g=>QL) ?_ ?_ (lE _))
  | ((with_reducible show JE _ _ _ _ _ _ (.gx _ [.bool]) _);refine qs (t:=.bool) (T:="bool") ?_ (by decide +kernel) (h1:=iS) (h2:=OJ))
  | ((with_reducible show JE _ _ _ _ _ _ (.gx _ [.int]) _);refine qs (t:=.int) (T:="int") ?_ (by decide +kernel) (h1:=iS) (h2:=Hf))
  | ((with_reducible show JE _ _ _ _ _ _ (.gx _ [.str]) _);refine qs (t:=.str) (T:="str") ?_ (by decide +kernel) (h1:=iS) (h2:=Hg))
  | ((with_reducible show JT _ _ _ _ _ _ (.ch _ _ _ _ _) _);refine QA (λX g=>uP) (λX g=>uP) ?_ ?_ ?_)
  | ((with_reducible show JE _ _ _ _ _ _ (.gP _ _) _);refine yP (x:="MARKS") (.head _) ?_)
  | ((with_reducible show JE _ _ _ _ _ _ (.gP _ _) _);refine yP (x:="WORDS") (.tail _ (.head _)) ?_)
  | ((with_reducible show JT _ _ _ _ _ _ (.cmp .fq _ _) _);refine ni (λX g=>D0 g) ?_ ?_ (by with_unfolding_all rfl))
  | ((with_reducible show JI _ _ _ _ _ _ (.gI (.cons _ (.cons _ .nil))) _ _);refine HY ?_ (hb:=zz))
  | ((with_reducible show JE _ _ _ _ _ _ (.bi .mj _) _);refine Gq (x:="int") (id:="int") (λX g=>IB) ?_ (hb:=Hf) (hv:=by decide +kernel))
  | ((with_reducible show JE _ _ _ _ _ _ (.me .part _ (.cons _ _)) _);refine qo abN PySem.F.slot_str_partition PySem.F.type_str_partition (λX g=>ID) rfl ?_ ?_)
  | ((with_reducible show JE _ _ _ _ _ _ (.bi .min _) _);refine uN (x:="min") (id:="min") (λX g=>LZ g) ?_ (hb:=TF) (hv:=by decide +kernel))
  | ((with_reducible show JS _ _ _ _ _ _ .cnt _);refine Lu)
  | ((with_reducible show JE _ _ _ _ _ _ (.cmp .gt _ _) _);refine vA (λX g=>GH) ?_ ?_ (lE _))
  | ((with_reducible show JE _ _ _ _ _ _ (.rv _) _);refine QO ?_)
  | ((with_reducible show JE _ _ _ _ _ _ (.me .idxs _ (.cons _ _)) _);refine qo abN PySem.F.slot_str_index PySem.F.type_str_index (λX g=>IC) rfl ?_ ?_)
  | ((with_reducible show JS _ _ _ _ _ _ (.set _ _) _);refine Wo ?_ ?_;decide +kernel)
  | ((with_reducible show JT _ _ _ _ _ _ _ _);refine Li ?_))
end
def fj{α:Type _}{l:List α}(h:l.length=1):∃a,l=[a]:=by
 rcases l with _|⟨a,_|⟨b,l⟩⟩<;>simp at h ⊢
def ki{α:Type _}{l:List α}(h:l.length=2):∃a b,l=[a,b]:=by
 rcases l with _|⟨a,l⟩
 .simp at h
 .obtain⟨b,rfl⟩:=fj (l:=l) (by simpa using h);exact⟨a,b,rfl⟩
def qe{α:Type _}{l:List α}(h:l.length=3):∃a b c,l=[a,b,c]:=by
 rcases l with _|⟨a,l⟩
 .simp at h
 .obtain⟨b,c,rfl⟩:=ki (l:=l) (by simpa using h);exact⟨a,b,c,rfl⟩
def Xd{α:Type _}{l:List α}(h:l.length=4):∃a b c d,l=[a,b,c,d]:=by
 rcases l with _|⟨a,l⟩
 .simp at h
 .obtain⟨b,c,d,rfl⟩:=qe (l:=l) (by simpa using h);exact⟨a,b,c,d,rfl⟩
structure Fg(K:PySem.W.Frag)(x:Str)(i:Nat)(p:Addr)(d:FuncData):Prop where
 a:PySem.W.nsIn K mainGlobals x=some (some (.ref p))
 f:vt K x x (top i) p d
def Fg.t{K:PySem.W.Frag}{h:Heap}{mg:Str->Option Value}{x:Str}{i:Nat}{p:Addr}{d:FuncData}{ps:List Str}(F:Fg K x i p d)(X:K.In h)(G:h.Ns mainGlobals mg)(b:Binds K d ps []):mg x=some (.ref p)/\PySem.W.keepIn K (.ref p)=true/\Binds K d ps []:=⟨aaH X G F.a,F.f.kp,b⟩
def all_mk {l:PySem.W.OpenLaw}{w:World}{K:PySem.W.Frag}{h:Heap}{mg:Str->Option Value}{fa p0 p1 p2 p3 p4 p5 p6 p7 p8 p9 UA UB UC UD UE UG UH UI UJ UK UL UM UN UO UP UQ UR US UT UU UW UX UY UZ U0 U1 U3 Pd:Addr}{d0 d1 d2 d3 d4 d5 d6 d7 d8 d9 U4 U5 U6 U7 U8 U9 Va Vb Vc Vd Ve Vf Vg Vh Vi Vj Vk Vl Vm Vn Vo Vp Vq Vr Vs Vt Vu Pe:FuncData}(X:K.In h) (G:h.Ns mainGlobals mg) (Y0:mg "law" = some (.ref fa))
  (F0:Fg K "is_change" 9 p0 d0)
  (F1:Fg K "is_part" 10 p1 d1)
  (F2:Fg K "is_kept" 11 p2 d2)
  (F3:Fg K "is_some" 12 p3 d3)
  (F4:Fg K "size" 13 p4 d4)
  (F5:Fg K "before" 14 p5 d5)
  (F6:Fg K "after" 15 p6 d6)
  (F7:Fg K "cost" 16 p7 d7)
  (F8:Fg K "form" 17 p8 d8)
  (F9:Fg K "stretch" 18 p9 d9)
  (Pf:Fg K "change_text" 22 UA U4)
  (Pg:Fg K "rows_text" 23 UB U5)
  (Ph:Fg K "read_change" 24 UC U6)
  (Pj:Fg K "read_part" 25 UD U7)
  (Pk:Fg K "read_number" 26 UE U8)
  (Pn:Fg K "lines_of" 27 UG U9)
  (Po:Fg K "owned_text" 32 UH Va)
  (Pp:Fg K "read_owned" 33 UI Vb)
  (Pq:Fg K "read_line" 34 UJ Vc)
  (Pr:Fg K "is_name" 35 UK Vd)
  (Pu:Fg K "fits" 37 UL Ve)
  (Pw:Fg K "done" 38 UM Vf)
  (Px:Fg K "then" 39 UN Vg)
  (Py:Fg K "met" 40 UO Vh)
  (Pz:Fg K "taken" 41 UP Vi)
  (PB:Fg K "parted" 42 UQ Vj)
  (PD:Fg K "owners" 44 UR Vk)
  (PF:Fg K "traced" 45 US Vl)
  (PJ:Fg K "traced_once" 46 UT Vm)
  (PK:Fg K "squeezed" 48 UU Vn)
  (PL:Fg K "_law_cell" 50 UW Vo)
  (PM:Fg K "_law_drawn" 51 UX Vp)
  (PN:Fg K "_law_text" 52 UY Vq)
  (PR:Fg K "_law_change" 53 UZ Vr)
  (PU:Fg K "_law_made" 54 U0 Vs)
  (PV:Fg K "_law_small" 55 U1 Vt)
  (PX:Fg K "_law_rows" 56 U3 Vu)
  (Dj:Fg K "law" 57 Pd Pe)
  (z0:PySem.W.nsIn K mainGlobals "all" = some none)
  (z1:PySem.W.nsIn K mainGlobals "bool" = some none)
  (z2:PySem.W.nsIn K mainGlobals "int" = some none)
  (z3:PySem.W.nsIn K mainGlobals "isinstance" = some none)
  (z4:PySem.W.nsIn K mainGlobals "len" = some none)
  (z5:PySem.W.nsIn K mainGlobals "list" = some none)
  (z6:PySem.W.nsIn K mainGlobals "min" = some none)
  (z7:PySem.W.nsIn K mainGlobals "range" = some none)
  (z8:PySem.W.nsIn K mainGlobals "reversed" = some none)
  (z9:PySem.W.nsIn K mainGlobals "str" = some none)
  (Vv:PySem.W.nsIn K mainGlobals "sum" = some none)
  (Vw:PySem.W.nsIn K mainGlobals "tuple" = some none)
  {t0:Tok} (q0:PySem.W.nsIn K mainGlobals "__name__" = some (some (.str "law_pastways_k94_whole_owned_texts" t0)))
  {t1:Tok} (q1:PySem.W.nsIn K mainGlobals "SIGNS" = some (some (.str "abcdefghijklmnopqrstuvwxyz " t1)))
  {t2:Tok} (q2:PySem.W.nsIn K mainGlobals "MOST_KEPT" = some (some (.int 99 t2)))
  {t3:Tok} (q3:PySem.W.nsIn K mainGlobals "MOST_SIGNS" = some (some (.int 8 t3)))
  {t4:Tok} (q4:PySem.W.nsIn K mainGlobals "MOST_PARTS" = some (some (.int 12 t4)))
  {t5:Tok} (q5:PySem.W.nsIn K mainGlobals "LETTERS" = some (some (.str "abcdefghijklmnopqrstuvwxyz" t5)))
  {t6:Tok} (q6:PySem.W.nsIn K mainGlobals "MOST_LETTERS" = some (some (.int 6 t6)))
  {t7:Tok} (q7:PySem.W.nsIn K mainGlobals "BETWEEN" = some (some (.str ": " t7)))
  {Hi:Addr} (Vx:PySem.W.nsIn K mainGlobals "MARKS" = some (some (.ref Hi))) (Vy:PyProof.Rows.KTD.tabLook PyProof.Rows.KTD.flatLooks (λb=>K.lookup b) Hi [(aB [107,101,101,112],PyData.str (aB [61])),(aB [112,117,116],PyData.str (aB [43])),(aB [100,114,111,112],PyData.str (aB [45]))]=true) (Vz:PyProof.Rows.KTD.hashesOf (λb=>K.lookup b) Hi=([(aB [107,101,101,112],PyData.str (aB [61])),(aB [112,117,116],PyData.str (aB [43])),(aB [100,114,111,112],PyData.str (aB [45]))]:List (Str×PyData)).map λp=>(PySem.strKind l.prog w).hash p.1)
  {Hj:Addr} (VA:PySem.W.nsIn K mainGlobals "WORDS" = some (some (.ref Hj))) (VB:PyProof.Rows.KTD.tabLook PyProof.Rows.KTD.flatLooks (λb=>K.lookup b) Hj [(aB [61],PyData.str (aB [107,101,101,112])),(aB [43],PyData.str (aB [112,117,116])),(aB [45],PyData.str (aB [100,114,111,112]))]=true) (VC:PyProof.Rows.KTD.hashesOf (λb=>K.lookup b) Hj=([(aB [61],PyData.str (aB [107,101,101,112])),(aB [43],PyData.str (aB [112,117,116])),(aB [45],PyData.str (aB [100,114,111,112]))]:List (Str×PyData)).map λp=>(PySem.strKind l.prog w).hash p.1)
  : ∃fd:FuncData,(∀(s:Shared) (v:Value),BindsTo s fd ⟨[v],[]⟩ [("_law_script",v)])/\∀base:Heap,K.In base->base.Ns mainGlobals mg->iW l.prog w K mg base ng 60 fa fd ["_law_script"] (oX K prog 100000 60 37):=by
 have e:=Y0.symm.trans (aaH X G Dj.a);have e2:Pd=fa:=by injection e with e;injection e with e;exact e.symm
 subst e2
 let aa:Nat->Addr:=λk=>[p0,p1,p2,p3,p4,p5,p6,p7,p8,p9,UA,UB,UC,UD,UE,UG,UH,UI,UJ,UK,UL,UM,UN,UO,UP,UQ,UR,US,UT,UU,UW,UX,UY,UZ,U0,U1,U3,Pd].getD k p0
 let dd:Nat->FuncData:=λk=>[d0,d1,d2,d3,d4,d5,d6,d7,d8,d9,U4,U5,U6,U7,U8,U9,Va,Vb,Vc,Vd,Ve,Vf,Vg,Vh,Vi,Vj,Vk,Vl,Vm,Vn,Vo,Vp,Vq,Vr,Vs,Vt,Vu,Pe].getD k d0
 have T:Top l.prog w K mg (tb aa dd):=by
  refine⟨λf i hi=>(show ∀i∈(tb aa dd).fi,mg i.name=some (.ref i.addr)/\PySem.W.keepIn K (.ref i.addr)=true/\Binds K i.fd i.ps []from ?_) i (aam hi),?_,?_,?_⟩
  .refine List.forall_mem_cons.mpr ⟨F0.t X G (F0.f.binds λ_ _ _ _ _ _ us hl=>by obtain⟨_,rfl⟩:=fj hl;rfl),?_⟩;refine List.forall_mem_cons.mpr ⟨F1.t X G (F1.f.binds λ_ _ _ _ _ _ us hl=>by obtain⟨_,rfl⟩:=fj hl;rfl),?_⟩;refine List.forall_mem_cons.mpr ⟨F2.t X G (F2.f.binds λ_ _ _ _ _ _ us hl=>by obtain⟨_,rfl⟩:=fj hl;rfl),?_⟩;refine List.forall_mem_cons.mpr ⟨F3.t X G (F3.f.binds λ_ _ _ _ _ _ us hl=>by obtain⟨_,rfl⟩:=fj hl;rfl),?_⟩;refine List.forall_mem_cons.mpr ⟨F4.t X G (F4.f.binds λ_ _ _ _ _ _ us hl=>by obtain⟨_,rfl⟩:=fj hl;rfl),?_⟩;refine List.forall_mem_cons.mpr ⟨F5.t X G (F5.f.binds λ_ _ _ _ _ _ us hl=>by obtain⟨_,rfl⟩:=fj hl;rfl),?_⟩;refine List.forall_mem_cons.mpr ⟨F6.t X G (F6.f.binds λ_ _ _ _ _ _ us hl=>by obtain⟨_,rfl⟩:=fj hl;rfl),?_⟩;refine List.forall_mem_cons.mpr ⟨F7.t X G (F7.f.binds λ_ _ _ _ _ _ us hl=>by obtain⟨_,rfl⟩:=fj hl;rfl),?_⟩;refine List.forall_mem_cons.mpr ⟨F8.t X G (F8.f.binds λ_ _ _ _ _ _ us hl=>by obtain⟨_,rfl⟩:=fj hl;rfl),?_⟩;refine List.forall_mem_cons.mpr ⟨F9.t X G (F9.f.binds λ_ _ _ _ _ _ us hl=>by obtain⟨_,_,_,rfl⟩:=qe hl;rfl),?_⟩;refine List.forall_mem_cons.mpr ⟨Pf.t X G (Pf.f.binds λ_ _ _ _ _ _ us hl=>by obtain⟨_,rfl⟩:=fj hl;rfl),?_⟩;refine List.forall_mem_cons.mpr ⟨Pg.t X G (Pg.f.binds λ_ _ _ _ _ _ us hl=>by obtain⟨_,rfl⟩:=fj hl;rfl),?_⟩;refine List.forall_mem_cons.mpr ⟨Ph.t X G (Ph.f.binds λ_ _ _ _ _ _ us hl=>by obtain⟨_,rfl⟩:=fj hl;rfl),?_⟩;refine List.forall_mem_cons.mpr ⟨Pj.t X G (Pj.f.binds λ_ _ _ _ _ _ us hl=>by obtain⟨_,rfl⟩:=fj hl;rfl),?_⟩;refine List.forall_mem_cons.mpr ⟨Pk.t X G (Pk.f.binds λ_ _ _ _ _ _ us hl=>by obtain⟨_,rfl⟩:=fj hl;rfl),?_⟩;refine List.forall_mem_cons.mpr ⟨Pn.t X G (Pn.f.binds λ_ _ _ _ _ _ us hl=>by obtain⟨_,rfl⟩:=fj hl;rfl),?_⟩;refine List.forall_mem_cons.mpr ⟨Po.t X G (Po.f.binds λ_ _ _ _ _ _ us hl=>by obtain⟨_,rfl⟩:=fj hl;rfl),?_⟩;refine List.forall_mem_cons.mpr ⟨Pp.t X G (Pp.f.binds λ_ _ _ _ _ _ us hl=>by obtain⟨_,rfl⟩:=fj hl;rfl),?_⟩;refine List.forall_mem_cons.mpr ⟨Pq.t X G (Pq.f.binds λ_ _ _ _ _ _ us hl=>by obtain⟨_,rfl⟩:=fj hl;rfl),?_⟩;refine List.forall_mem_cons.mpr ⟨Pr.t X G (Pr.f.binds λ_ _ _ _ _ _ us hl=>by obtain⟨_,rfl⟩:=fj hl;rfl),?_⟩;refine List.forall_mem_cons.mpr ⟨Pu.t X G (Pu.f.binds λ_ _ _ _ _ _ us hl=>by obtain⟨_,_,rfl⟩:=ki hl;rfl),?_⟩;refine List.forall_mem_cons.mpr ⟨Pw.t X G (Pw.f.binds λ_ _ _ _ _ _ us hl=>by obtain⟨_,_,rfl⟩:=ki hl;rfl),?_⟩;refine List.forall_mem_cons.mpr ⟨Px.t X G (Px.f.binds λ_ _ _ _ _ _ us hl=>by obtain⟨_,_,rfl⟩:=ki hl;rfl),?_⟩;refine List.forall_mem_cons.mpr ⟨Py.t X G (Py.f.binds λ_ _ _ _ _ _ us hl=>by obtain⟨_,_,rfl⟩:=ki hl;rfl),?_⟩;refine List.forall_mem_cons.mpr ⟨Pz.t X G (Pz.f.binds λ_ _ _ _ _ _ us hl=>by obtain⟨_,_,rfl⟩:=ki hl;rfl),?_⟩;refine List.forall_mem_cons.mpr ⟨PB.t X G (PB.f.binds λ_ _ _ _ _ _ us hl=>by obtain⟨_,_,rfl⟩:=ki hl;rfl),?_⟩;refine List.forall_mem_cons.mpr ⟨PD.t X G (PD.f.binds λ_ _ _ _ _ _ us hl=>by obtain⟨_,_,rfl⟩:=ki hl;rfl),?_⟩;refine List.forall_mem_cons.mpr ⟨PF.t X G (PF.f.binds λ_ _ _ _ _ _ us hl=>by obtain⟨_,_,rfl⟩:=ki hl;rfl),?_⟩;refine List.forall_mem_cons.mpr ⟨PJ.t X G (PJ.f.binds λ_ _ _ _ _ _ us hl=>by obtain⟨_,_,_,rfl⟩:=qe hl;rfl),?_⟩;refine List.forall_mem_cons.mpr ⟨PK.t X G (PK.f.binds λ_ _ _ _ _ _ us hl=>by obtain⟨_,rfl⟩:=fj hl;rfl),?_⟩;refine List.forall_mem_cons.mpr ⟨PL.t X G (PL.f.binds λ_ _ _ _ _ _ us hl=>by obtain⟨_,_,rfl⟩:=ki hl;rfl),?_⟩;refine List.forall_mem_cons.mpr ⟨PM.t X G (PM.f.binds λ_ _ _ _ _ _ us hl=>by obtain⟨_,_,_,rfl⟩:=qe hl;rfl),?_⟩;refine List.forall_mem_cons.mpr ⟨PN.t X G (PN.f.binds λ_ _ _ _ _ _ us hl=>by obtain⟨_,_,_,rfl⟩:=qe hl;rfl),?_⟩;refine List.forall_mem_cons.mpr ⟨PR.t X G (PR.f.binds λ_ _ _ _ _ _ us hl=>by obtain⟨_,_,_,rfl⟩:=qe hl;rfl),?_⟩;refine List.forall_mem_cons.mpr ⟨PU.t X G (PU.f.binds λ_ _ _ _ _ _ us hl=>by obtain⟨_,_,rfl⟩:=ki hl;rfl),?_⟩;refine List.forall_mem_cons.mpr ⟨PV.t X G (PV.f.binds λ_ _ _ _ _ _ us hl=>by obtain⟨_,_,_,rfl⟩:=qe hl;rfl),?_⟩;refine List.forall_mem_cons.mpr ⟨PX.t X G (PX.f.binds λ_ _ _ _ _ _ us hl=>by obtain⟨_,_,_,_,rfl⟩:=Xd hl;rfl),?_⟩;refine List.forall_mem_cons.mpr ⟨Dj.t X G (Dj.f.binds λ_ _ _ _ _ _ us hl=>by obtain⟨_,rfl⟩:=fj hl;rfl),?_⟩;exact λ_ h=>nomatch h
  .exact(show ∀x∈kN,mg x=none from List.forall_mem_cons.mpr ⟨aan X G z0,List.forall_mem_cons.mpr ⟨aan X G z1,List.forall_mem_cons.mpr ⟨aan X G z2,List.forall_mem_cons.mpr ⟨aan X G z3,List.forall_mem_cons.mpr ⟨aan X G z4,List.forall_mem_cons.mpr ⟨aan X G z5,List.forall_mem_cons.mpr ⟨aan X G z6,List.forall_mem_cons.mpr ⟨aan X G z7,List.forall_mem_cons.mpr ⟨aan X G z8,List.forall_mem_cons.mpr ⟨aan X G z9,List.forall_mem_cons.mpr ⟨aan X G Vv,List.forall_mem_cons.mpr ⟨aan X G Vw,λ_ h=>nomatch h⟩⟩⟩⟩⟩⟩⟩⟩⟩⟩⟩⟩)
  .exact λx d hx=>(show ∀y∈(tb aa dd).cs,∃v u,mg y.1=some u/\RelV v u/\yx K y.2 v from List.forall_mem_cons.mpr ⟨⟨.str "law_pastways_k94_whole_owned_texts",_,aaH X G q0,⟨_,rfl⟩,λ_ _=>⟨by decide +kernel,by decide⟩⟩,List.forall_mem_cons.mpr ⟨⟨.str "abcdefghijklmnopqrstuvwxyz ",_,aaH X G q1,⟨_,rfl⟩,λ_ _=>⟨by decide +kernel,by decide⟩⟩,List.forall_mem_cons.mpr ⟨⟨.int 99,_,aaH X G q2,⟨_,rfl⟩,λ_ _=>rfl⟩,List.forall_mem_cons.mpr ⟨⟨.int 8,_,aaH X G q3,⟨_,rfl⟩,λ_ _=>rfl⟩,List.forall_mem_cons.mpr ⟨⟨.int 12,_,aaH X G q4,⟨_,rfl⟩,λ_ _=>rfl⟩,List.forall_mem_cons.mpr ⟨⟨.str "abcdefghijklmnopqrstuvwxyz",_,aaH X G q5,⟨_,rfl⟩,λ_ _=>⟨by decide +kernel,by decide⟩⟩,List.forall_mem_cons.mpr ⟨⟨.int 6,_,aaH X G q6,⟨_,rfl⟩,λ_ _=>rfl⟩,List.forall_mem_cons.mpr ⟨⟨.str ": ",_,aaH X G q7,⟨_,rfl⟩,λ_ _=>⟨by decide +kernel,by decide⟩⟩,λ_ h=>nomatch h⟩⟩⟩⟩⟩⟩⟩⟩) (x,d) hx
  .exact λx d hx=>(show ∀y∈(tb aa dd).dk,∃a,mg y.1=some (.ref a)/\∀h:Heap,K.In h->StrTab l.prog w h a (tabOf y.2)from List.forall_mem_cons.mpr ⟨⟨Hi,aaH X G Vx,λh hK=>PySem.W.kt_tab_in l.prog w hK Vy (by decide +kernel) Vz⟩,List.forall_mem_cons.mpr ⟨⟨Hj,aaH X G VA,λh hK=>PySem.W.kt_tab_in l.prog w hK VB (by decide +kernel) VC⟩,λ_ h=>nomatch h⟩⟩) (x,d) hx
 refine⟨Pe,λs v=>?_,λbase _ _=>?_⟩
 .obtain⟨oc,od,kV,doc,pm,an,cdv,ct,osl,e,_⟩:=Dj.f.ex;rw[e];exact .of_eq rfl
 refine B8 (P:=l.prog) (w:=w) (base:=base) T (λn A0 f i hi=>?_) 60 37 (G9 aa dd) rfl
 match f,hi with
 |0,hi=>obtain rfl:i0 aa dd=i:=qV hi;exact bS (i:=i0 aa dd) T A0 F0.f s0 rfl rfl (@allB.get _ _ _ 0 (f0.body,top 9,n0) cG rfl)
 |1,hi=>obtain rfl:i1 aa dd=i:=qV hi;exact bS (i:=i1 aa dd) T A0 F1.f s1 rfl rfl (@allB.get _ _ _ 1 (f1.body,top 10,n1) cG rfl)
 |2,hi=>obtain rfl:i2 aa dd=i:=qV hi;exact bS (i:=i2 aa dd) T A0 F2.f s2 rfl rfl (@allB.get _ _ _ 2 (f2.body,top 11,n2) cG rfl)
 |3,hi=>obtain rfl:i3 aa dd=i:=qV hi;exact bS (i:=i3 aa dd) T A0 F3.f s3 rfl rfl (@allB.get _ _ _ 3 (f3.body,top 12,n3) cG rfl)
 |4,hi=>obtain rfl:i4 aa dd=i:=qV hi;exact bS (i:=i4 aa dd) T A0 F4.f s4 rfl rfl (@allB.get _ _ _ 4 (f4.body,top 13,n4) cG rfl)
 |5,hi=>obtain rfl:i5 aa dd=i:=qV hi;exact bS (i:=i5 aa dd) T A0 F5.f s5 rfl rfl (@allB.get _ _ _ 5 (f5.body,top 14,n5) cG rfl)
 |6,hi=>obtain rfl:i6 aa dd=i:=qV hi;exact bS (i:=i6 aa dd) T A0 F6.f s6 rfl rfl (@allB.get _ _ _ 6 (f6.body,top 15,n6) cG rfl)
 |7,hi=>obtain rfl:i7 aa dd=i:=qV hi;exact bS (i:=i7 aa dd) T A0 F7.f s7 rfl rfl (@allB.get _ _ _ 7 (f7.body,top 16,n7) cG rfl)
 |8,hi=>obtain rfl:i8 aa dd=i:=qV hi;exact bS (i:=i8 aa dd) T A0 F8.f s8 rfl rfl (@allB.get _ _ _ 8 (f8.body,top 17,n8) cG rfl)
 |9,hi=>obtain rfl:i9 aa dd=i:=qV hi;exact bS (i:=i9 aa dd) T A0 F9.f s9 rfl rfl (@allB.get _ _ _ 9 (f9.body,top 18,n9) cG rfl)
 |10,hi=>obtain rfl:Od aa dd=i:=qV hi;exact bS (i:=Od aa dd) T A0 Pf.f Ua rfl rfl (@allB.get _ _ _ 10 (BQ.body,top 22,OM) cG rfl)
 |11,hi=>obtain rfl:Oe aa dd=i:=qV hi;exact bS (i:=Oe aa dd) T A0 Pg.f Gw rfl rfl (@allB.get _ _ _ 11 (NR.body,top 23,ON) cG rfl)
 |12,hi=>obtain rfl:i12 aa dd=i:=qV hi;exact bS (i:=i12 aa dd) T A0 Ph.f s12 rfl rfl (@allB.get _ _ _ 12 (NS.body,top 24,OO) cG rfl)
 |13,hi=>obtain rfl:Of aa dd=i:=qV hi;exact bS (i:=Of aa dd) T A0 Pj.f YA rfl rfl (@allB.get _ _ _ 13 (NT.body,top 25,OP) cG rfl)
 |14,hi=>obtain rfl:Og aa dd=i:=qV hi;exact bS (i:=Og aa dd) T A0 Pk.f YB rfl rfl (@allB.get _ _ _ 14 (NU.body,top 26,OQ) cG rfl)
 |15,hi=>obtain rfl:Oh aa dd=i:=qV hi;exact bS (i:=Oh aa dd) T A0 Pn.f YC rfl rfl (@allB.get _ _ _ 15 (NV.body,top 27,OR) cG rfl)
 |16,hi=>obtain rfl:Oi aa dd=i:=qV hi;exact bS (i:=Oi aa dd) T A0 Po.f YD rfl rfl (@allB.get _ _ _ 16 (NX.body,top 32,OS) cG rfl)
 |17,hi=>obtain rfl:Oj aa dd=i:=qV hi;exact bS (i:=Oj aa dd) T A0 Pp.f YE rfl rfl (@allB.get _ _ _ 17 (NY.body,top 33,OT) cG rfl)
 |18,hi=>obtain rfl:Ol aa dd=i:=qV hi;exact bS (i:=Ol aa dd) T A0 Pq.f YF rfl rfl (@allB.get _ _ _ 18 (NZ.body,top 34,OU) cG rfl)
 |19,hi=>obtain rfl:Om aa dd=i:=qV hi;exact bS (i:=Om aa dd) T A0 Pr.f YG rfl rfl (@allB.get _ _ _ 19 (N1.body,top 35,OV) cG rfl)
 |20,hi=>obtain rfl:Oo aa dd=i:=qV hi;exact bS (i:=Oo aa dd) T A0 Pu.f YH rfl rfl (@allB.get _ _ _ 20 (N3.body,top 37,OW) cG rfl)
 |21,hi=>obtain rfl:Oq aa dd=i:=qV hi;exact bS (i:=Oq aa dd) T A0 Pw.f YI rfl rfl (@allB.get _ _ _ 21 (N4.body,top 38,OX) cG rfl)
 |22,hi=>obtain rfl:Ot aa dd=i:=qV hi;exact bS (i:=Ot aa dd) T A0 Px.f YJ rfl rfl (@allB.get _ _ _ 22 (N5.body,top 39,OY) cG rfl)
 |23,hi=>obtain rfl:Ou aa dd=i:=qV hi;exact bS (i:=Ou aa dd) T A0 Py.f YK rfl rfl (@allB.get _ _ _ 23 (N6.body,top 40,OZ) cG rfl)
 |24,hi=>obtain rfl:Ov aa dd=i:=qV hi;exact bS (i:=Ov aa dd) T A0 Pz.f YL rfl rfl (@allB.get _ _ _ 24 (N7.body,top 41,O0) cG rfl)
 |25,hi=>obtain rfl:Ow aa dd=i:=qV hi;exact bS (i:=Ow aa dd) T A0 PB.f YM rfl rfl (@allB.get _ _ _ 25 (N8.body,top 42,O1) cG rfl)
 |26,hi=>obtain rfl:Ox aa dd=i:=qV hi;exact bS (i:=Ox aa dd) T A0 PD.f YN rfl rfl (@allB.get _ _ _ 26 (Dh.body,top 44,O2) cG rfl)
 |27,hi=>obtain rfl:Oz aa dd=i:=qV hi;exact bS (i:=Oz aa dd) T A0 PF.f YO rfl rfl (@allB.get _ _ _ 27 (xG.body,top 45,O3) cG rfl)
 |28,hi=>obtain rfl:OA aa dd=i:=qV hi;exact bS (i:=OA aa dd) T A0 PJ.f YQ rfl rfl (@allB.get _ _ _ 28 (xH.body,top 46,O4) cG rfl)
 |29,hi=>obtain rfl:OB aa dd=i:=qV hi;exact bS (i:=OB aa dd) T A0 PK.f YR rfl rfl (@allB.get _ _ _ 29 (xJ.body,top 48,O5) cG rfl)
 |30,hi=>obtain rfl:OC aa dd=i:=qV hi;exact bS (i:=OC aa dd) T A0 PL.f YS rfl rfl (@allB.get _ _ _ 30 (N9.body,top 50,O6) cG rfl)
 |31,hi=>obtain rfl:OD aa dd=i:=qV hi;exact bS (i:=OD aa dd) T A0 PM.f YT rfl rfl (@allB.get _ _ _ 31 (Oa.body,top 51,O7) cG rfl)
 |32,hi=>obtain rfl:OE aa dd=i:=qV hi;exact bS (i:=OE aa dd) T A0 PN.f YU rfl rfl (@allB.get _ _ _ 32 (f32.body,top 52,n32) cG rfl)
 |33,hi=>obtain rfl:OF aa dd=i:=qV hi;exact bS (i:=OF aa dd) T A0 PR.f YV rfl rfl (@allB.get _ _ _ 33 (Ob.body,top 53,O8) cG rfl)
 |34,hi=>obtain rfl:OG aa dd=i:=qV hi;exact bS (i:=OG aa dd) T A0 PU.f YW rfl rfl (@allB.get _ _ _ 34 (Oc.body,top 54,O9) cG rfl)
 |35,hi=>obtain rfl:OH aa dd=i:=qV hi;exact bS (i:=OH aa dd) T A0 PV.f YX rfl rfl (@allB.get _ _ _ 35 (pH.body,top 55,Pa) cG rfl)
 |36,hi=>obtain rfl:OI aa dd=i:=qV hi;exact bS (i:=OI aa dd) T A0 PX.f YY rfl rfl (@allB.get _ _ _ 36 (xK.body,top 56,Pb) cG rfl)
 |37,hi=>obtain rfl:G9 aa dd=i:=qV hi;exact bS (i:=G9 aa dd) T A0 Dj.f YZ rfl rfl (@allB.get _ _ _ 37 (Di.body,top 57,Pc) cG rfl)
 |j+38,hi=>exact nomatch (show(none:Option FI)=some i from hi)
end Lw
namespace Lg
open Pv
open Lw (prog Dh xG xH xJ pH xK Di G6 AO AQ AR AS AU G7 AW G8 AV AX AY AZ)
open Ev (deep big rep cut bL)
def Hl(ns:List Int)(k:Int)(x:List Nat)(b:Nat)(h:x.length<=b):(chg ns k x).length<=2*b+2/\tot (chg ns k x)<=3*b+3:=by
 have h1:=nH ns k x (x.length+1);have h2:=um ns k x (x.length+1);simp only[chg];omega
def xN(a b:Nat):Pv.bV .add (.int (a:Int)) (.int (b:Int))=some (.int ((a+b:Nat):Int)):=by rw[cI];congr 2
def PY{a b:Nat}(h:b<=a):Pv.bV .sub (.int (a:Int)) (.int (b:Int))=some (.int ((a - b:Nat):Int)):=by rw[wu];congr 2;omega
def J0(st:List V)(o:List Nat):∀(n k:Nat),k+n<=st.length->((List.range n).map λj=>Tq.at (k+j)).map (who st o)=(st.drop k).take n:=λn k h=>by
 apply abJ;intro i;by_cases hi:i<n
 .have:k+i<st.length:=by omega
  simp[hi,who,List.getElem?_take,List.getElem?_drop,Uy this,List.getD]
 .rw[aah (by simp;omega),aah (by simp;omega)]
noncomputable def tw(st:List V)(o:List Nat)(p:List Pt):List V:=(told 0 p).map (who st o)
def Xe{st:List V}{o:List Nat}{p:List Pt}{k:Nat}(h:aF p+k<=st.length):tw st o (p++[.keep k])=tw st o p++(st.drop (aF p)).take k:=by
 unfold tw;rw[fE,mL,aad,<-J0 st o k (aF p) h];simp[told,Pt.told]
def Xf{st:List V}{o:List Nat}{p:List Pt}{s:List Nat}:tw st o (p++[.put s])=tw st o p++s.map λ_=>V.str o:=by
 unfold tw;rw[fE,aad];simp[told,Pt.told,who]
def Xg{st:List V}{o:List Nat}{p:List Pt}{s:List Nat}:tw st o (p++[.drop s])=tw st o p:=by
 unfold tw;rw[fE,aad];simp[told,Pt.told]
def xO(p:List Pt)(q:Pt):aF (p++[q])=aF p+aF [q]:=iE p [q]
def zB{c o:List Pt}{t u:List Nat}(h:aX c t=true)(h2:aX o u=true):aX (c++o) (t++u)=true/\aJ (c++o) (t++u)=aJ c t++aJ o u:=by
 have hb:(aA (aV c)).length=t.length:=by rw[<-w9,iF h]
 refine⟨?_,?_⟩
 .rw[gD,eZ];rw[gD]at h h2;exact qa h h2
 .rw[fF,jO,qW,hb,<-fF,<-fF];simp
def qf(u:List Nat):aX [.keep u.length] u=true/\aJ [.keep u.length] u=u:=by simp[aX,aJ]
def Ho(i:Int):Ev.bT 70 i=true:=by simp[Ev.bT]
def drawn{ns:List Int}(k:Int)(m:Nat)(h:0<m):∃p:Nat,cU ns k (m:Int)=(p:Int)/\p<m:=by
 have h1:=j5 ns k (many:=(m:Int)) (by omega);have h2:=j6 ns k (many:=(m:Int)) (by omega);exact⟨(cU ns k (m:Int)).toNat,by omega,by omega⟩
def oO(a b:Row):dM (18+1) (aL a) (aL b)=some (decide (a=b)):=by
 have h:dM 18 (aQ a.2) (aQ b.2)=some (decide (a.2=b.2)):=jM (f:=dM 17) (g:=Pt.v) (Nv 15) a.2 b.2;show cO (dM 18) [.str a.1,aQ a.2] [.str b.1,aQ b.2]=_;rw[pW,pW,zg,h,wz];obtain⟨a1,a2⟩:=a;obtain⟨b1,b2⟩:=b;by_cases e1:a1=b1<;>by_cases e2:a2=b2<;>simp[e1,e2]
def nR(K:List Row):Pv.cop .ne (.lst (K.map aL)) (.lst (K.map aL))=some false:=by rw[nF,oB,jM oO];simp
noncomputable def zC(v:V):Prop:=v=.bz\/∃s,v=.str s
theorem Hq:∀{l:List V},(∀v∈l,zC v)->cO (dM (18+1)) l l=some true
 |[],_=>zg
 |v :: l,h=>by
  rw[pW,Hq λx hx=>h x (.tail _ hx)];rcases h v (.head _)with rfl|⟨s,rfl⟩
  .rw[MQ];rfl
  .rw[wz];simp
def PZ{st:List V}(h:∀v∈st,zC v)(r:Row):∀v∈jn st r,zC v:=λv hv=>by
 obtain⟨q,_,rfl⟩:=List.mem_map.mp hv;cases q with
 |sg d=>exact .inr ⟨_,rfl⟩
 |«at» i=>
  show zC (st.getD i .bz);by_cases hi:i<st.length
  .rw[aci,Uy hi];exact h _ (List.getElem_mem hi)
  .rw[aci,aah (by omega)];exact .inl rfl
theorem Dk:∀(rs:List Row) {st:List V},(∀v∈st,zC v)->∀v∈ows st rs,zC v
 |[],st,h=>h
 |r :: rs,st,h=>Dk rs (st:=jn st r) (PZ h r)
section
variable{w n:Nat}{ns:List Int}
noncomputable def oF(st:List V)(o:List Nat)(c p:List Pt)(g:List V)(x y:Option Sl):Fr:=[some (.val (.lst st)),some (.val (.str o)),some (.val (aQ c)),some (.own (tw st o p)),some (.own g),some (.val (.int (aF p:Nat))),x,y,none]
def FQ{st:List V}{o:List Nat}{c:List Pt}{t:List Nat}(h:aX c t=true)(hs:st.length=t.length)(b1:tot c<=900)(b2:t.length<=900) :
  ∃g:List V,g.length<=tot c/\run prog w (n+6) 28 [.val (.lst st),.val (.str o),.val (aQ c)]=some (.tup [.lst (jn st (o,c)),.lst g],[]):=by
 have bc:=iF h;have key:Wp (exs (run prog w (n+5)) w xH.body (dZ xH [.val (.lst st),.val (.str o),.val (aQ c)])) λr fr=>∃g:List V,g.length<=tot c/\r=.ret (.tup [.lst (jn st (o,c)),.lst g])/\outs 3 fr=[]:=by
  refine af (gg (l:=[]) (jF aE kB) rfl rfl ?_);refine af (gg (l:=[]) (jF aE kB) rfl rfl ?_);refine af (aR (aC rfl) rfl rfl ?_);refine af (ji (vs:=c.map Pt.v) (cE (cS rfl) rfl) ?_);refine fO (e:=Pt.v) (λp l fr=>p++l=c/\∃g x y,g.length<=tot p/\vo x/\vo y/\fr=oF st o c p g x y) (λp q l fr ⟨hpl,g,x,y,hg,hx,hy,hfr⟩=>?_) (λp fr ⟨hpl,g,x,y,hg,hx,hy,hfr⟩=>?_) c [] _ ⟨rfl,[],none,none,aaW _,.none,.none,rfl⟩
  .subst hfr;have fh:(p++[q])++l=c:=by simpa using hpl
   have e1:aF p+(aF [q]+aF l)=aF c:=by rw[<-fh,iE,iE];omega
   have e2:tot p+(q.n+tot l)=tot c:=by rw[<-hpl,eU,cz]
   have e3:tot (p++[q])=tot p+q.n:=by rw[eU];simp[tot]
   have lt:(tw st o p).length<=tot p:=by unfold tw;rw[aaw];exact Jw p 0
   have sz:=λfr=>b8 (fr:=fr) (ja (F:=prog) (i:=4) (w:=w) (n:=n+4) rfl q (by omega));refine dB (ah:=oF st o c p g (some (.val q.v)) y) (bind1 rfl hx) ?_;cases q with
   |put s=>
    have bq:aF (p++[.put s])=aF p:=by rw[xO];simp[aF,tot,fM]
    have mk:=bK (x:=s.map λ_=>V.str o) (aZ (by simp[Pt.n]at e2 ⊢;omega));have cm:bR (dX (run prog w (n+5)) (.v 1) (.one 8) .no (oF st o c p g (some (.val (Pt.put s).v)) y)) (s.map λd=>V.str [d])=some (s.map λ_=>V.str o):=cD (λd=>V.str [d]) (λ_=>V.str o) s λd _=>dD rfl (ao rfl);refine af (aD (b:=true) (az rfl (aT (b9 (ao rfl) (aC rfl) rfl) (aC rfl) eL) rfl) (λ_=>?_) λh=>absurd h (by decide));refine af (fz (jG rfl rfl (au (di (cE (b9 (ao rfl) (aC rfl) rfl) rfl) rfl cm mk) aE) (jN (by simp[Pt.n]at e2 ⊢;omega))) ?_);refine af ⟨_,_,Ni,?_⟩;show(p++[Pt.put s])++l=c/\∃g x y,g.length<=tot (p++[Pt.put s])/\vo x/\vo y/\_=oF st o c (p++[Pt.put s]) g x y;refine⟨fh,g,some (.val (Pt.put s).v),y,by omega,.val,hy,?_⟩;unfold oF;rw[Xf,bq];rfl
   |keep k=>
    have bq:aF (p++[.keep k])=aF p+k:=by rw[xO];simp[aF,tot,fM,Pt.n]
    have hk:aF p+k<=st.length:=by simp[aF,tot,fM,Pt.n]at e1;simp[aF,tot,fM,Pt.n]at *;omega
    have sl:eV (.lst st) (some (aF p:Int)) (some ((aF p+k:Nat):Int))=some (.lst ((st.drop (aF p)).take k)):=by
     have e:cut st (some (aF p:Int)) (some ((aF p+k:Nat):Int))=(st.drop (aF p)).take k:=j8 st (aF p) k;show dQ (cut st _ _)=_;rw[e];exact bK (aZ (by simp;omega))
    refine af (aD (b:=false) (az rfl (aT (b9 (ao rfl) (aC rfl) rfl) (aC rfl) eL) rfl) (λh=>absurd h (by decide)) λ_=>ay ?_);refine af (aR (aq:=oF st o c p g (some (.val (Pt.keep k).v)) (some (.val (.lst ((st.drop (aF p)).take k))))) (gk (ao rfl) (cX (ao rfl)) (cX (aW (ao rfl) (bB (aK rfl (ao rfl) aM) (sz _)) (xN (aF p) k))) sl) rfl (eY rfl hy) ?_);refine af (aR (aW (ao rfl) (bB (aK rfl (ao rfl) aM) (sz _)) (xN (aF p) k)) rfl rfl ?_);refine af (aD (b:=true) (az rfl (aT (b9 (ao rfl) (aC rfl) rfl) (aC rfl) eL) rfl) (λ_=>?_) λh=>absurd h (by decide));refine af (fz (jG rfl rfl (au (ao rfl) aE) (jN (by simp;omega))) (ay (ay ?_)));rw[dw];refine⟨fh,g,some (.val (Pt.keep k).v),some (.val (.lst ((st.drop (aF p)).take k))),by omega,.val,.val,?_⟩;unfold oF;rw[Xe hk,bq];rfl
   |drop s=>
    have bq:aF (p++[.drop s])=aF p+s.length:=by rw[xO];simp[aF,tot,fM,Pt.n]
    have sl:eV (.lst st) (some (aF p:Int)) (some ((aF p+s.length:Nat):Int))=some (.lst ((st.drop (aF p)).take s.length)):=by
     have e:cut st (some (aF p:Int)) (some ((aF p+s.length:Nat):Int))=(st.drop (aF p)).take s.length:=j8 st (aF p) s.length;show dQ (cut st _ _)=_;rw[e];exact bK (aZ (by simp;omega))
    have lg:(g++(st.drop (aF p)).take s.length).length<=tot (p++[.drop s]):=by rw[e3];simp[Pt.n];omega
    refine af (aD (b:=false) (az rfl (aT (b9 (ao rfl) (aC rfl) rfl) (aC rfl) eL) rfl) (λh=>absurd h (by decide)) λ_=>ay ?_);refine af (aR (aq:=oF st o c p g (some (.val (Pt.drop s).v)) (some (.val (.lst ((st.drop (aF p)).take s.length))))) (gk (ao rfl) (cX (ao rfl)) (cX (aW (ao rfl) (bB (aK rfl (ao rfl) aM) (sz _)) (xN (aF p) s.length))) sl) rfl (eY rfl hy) ?_);refine af (aR (aW (ao rfl) (bB (aK rfl (ao rfl) aM) (sz _)) (xN (aF p) s.length)) rfl rfl ?_);refine af (aD (b:=false) (az rfl (aT (b9 (ao rfl) (aC rfl) rfl) (aC rfl) eL) rfl) (λh=>absurd h (by decide)) λ_=>?_);refine af (fz (jG rfl rfl (au (ao rfl) aE) (jN (by simp;omega))) (ay (ay ?_)));rw[dw];refine⟨fh,_,some (.val (Pt.drop s).v),some (.val (.lst ((st.drop (aF p)).take s.length))),lg,.val,.val,?_⟩;unfold oF;rw[Xg,bq];rfl
  .subst hfr;rw[aao]at hpl;subst hpl;have sh:fK (oF st o p p g x y)=[some (.val (.lst st)),some (.val (.str o)),some (.val (aQ p)),some (.val (.lst (tw st o p))),some (.val (.lst g)),some (.val (.int (aF p:Nat))),x,y,none]:=by
    show [_,_,_,_,_,_,x.map Sl.dN,y.map Sl.dN,_]=_;rw[cy hx,cy hy];rfl
   refine af (aU (ah:=[some (.val (.lst st)),some (.val (.str o)),some (.val (aQ p)),some (.val (.lst (tw st o p))),some (.val (.lst g)),some (.val (.int (aF p:Nat))),x,y,none]) (v:=.tup [.lst (jn st (o,p)),.lst g]) ?_ ⟨g,hg,rfl,rfl⟩);rw[sh];exact cZ (au (ao rfl) (au (ao rfl) aE)) fL
 obtain⟨r,fr,e,g,hg,hr,ho⟩:=key;exact⟨g,hg,bu (fn:=xH) rfl rfl ⟨r,fr,e,hr,ho⟩⟩
theorem Hr:∀(rs:List (List Pt)) (t:List Nat),(dI t rs).length<=t.length+dJ rs
 |[],t=>by simp[dI,dJ]
 |c :: rs,t=>by
  have h1:=j9 c t;have h2:=Hr rs (aJ c t);have h3:dJ (c :: rs)=tot c+dJ rs:=by simp[dJ]
  have h4:dI t (c :: rs)=dI (aJ c t) rs:=rfl;rw[h3,h4];omega
structure Rw(t:List Nat)(rs:List Row):Prop where
 ch:Ch t (bH rs)
 ln:∀r∈rs,r.2.length<=900
 tt:t.length+dJ (bH rs)<=900
theorem Rw.at{t:List Nat}{rs p l:List Row}{r:Row}(h:Rw t rs)(e:p++r :: l=rs):aX r.2 (dI t (bH p))=true/\r.2.length<=900/\tot r.2<=900/\(dI t (bH p)).length<=900/\dJ (bH p)+tot r.2<=900:=by
 have h1:=h.ch;have h2:=h.tt;have h3:=Hr (bH p) t;rw[<-e,lV]at h1 h2;have h4:dJ (bH p++bH (r :: l))=dJ (bH p)+(tot r.2+dJ (bH l)):=by simp[dJ,bH]
 rw[h4]at h2;exact⟨((nM.mp h1).2).1,h.ln r (by rw[<-e];simp),by omega,by omega,by omega⟩
noncomputable def iO(t:List Nat):List V:=t.map λ_=>V.bz
def A4{t:List Nat}{rs:List Row}(R:Rw t rs):∃g:List V,run prog w (n+7) 27 [.val (.str t),.val (.lst (rs.map aL))]=some (.tup [.lst (ows (iO t) rs),.lst g],[]):=by
 have bt:=R.tt;have key:Wp (exs (run prog w (n+6)) w xG.body (dZ xG [.val (.str t),.val (.lst (rs.map aL))])) λr fr=>∃g:List V,r=.ret (.tup [.lst (ows (iO t) rs),.lst g])/\outs 2 fr=[]:=by
  have mk:=bK (x:=iO t) (aZ (by simp[iO];omega));refine af (aR (ao rfl) rfl rfl ?_);refine af (aR (di (cE (cS rfl) rfl) rfl (cD (λd=>V.str [d]) (λ_=>V.bz) t λd _=>dD rfl (aC rfl)) mk) rfl rfl ?_);refine af (gg (l:=[]) (jF aE kB) rfl rfl ?_);refine af (ji (vs:=rs.map aL) (cE (cS rfl) rfl) ?_);refine fO (e:=aL) (λp l fr=>p++l=rs/\∃g x y z,g.length<=dJ (bH p)/\vo x/\vo y/\vo z/\fr=[some (.val (.str t)),some (.val (.lst (rs.map aL))),some (.val (.str (dI t (bH p)))),some (.val (.lst (ows (iO t) p))),some (.own g),x,y,z,none]) (λp r l fr ⟨hpl,g,x,y,z,hg,hx,hy,hz,hfr⟩=>?_) (λp fr ⟨hpl,g,x,y,z,hg,hx,hy,hz,hfr⟩=>?_) rs [] _ ⟨rfl,[],none,none,none,aaW _,.none,.none,.none,rfl⟩
  .subst hfr;obtain⟨h1,h2,h3,h4,h5⟩:=R.at hpl;have D:=λfr=>call2 (fr:=fr) (Fw (F:=prog) (aO:=4) (nL:=20) (i:=21) (w:=w) (n:=n+3) rfl rfl rfl r.2 (dI t (bH p)) (by omega) (by omega) (by omega) h1);have hp:Ch t (bH p):=by have:=R.ch;rw[<-hpl,lV]at this;exact(nM.mp this).1
   obtain⟨g2,Ud,ro⟩:=FQ (w:=w) (n:=n) (st:=ows (iO t) p) (o:=r.1) h1 (sI (by simp[iO]) hp) (by omega) h4;have ro:=λfr=>fY (fr:=fr) ro;refine dB (iP rfl hx rfl hy) (af (aR (bB (aK rfl (ao rfl) (aK rfl (ao rfl) aM)) (D _)) rfl rfl ?_));refine af (aR (bB (aK rfl (ao rfl) (aK rfl (ao rfl) (aK rfl (ao rfl) aM))) (ro _)) rfl (eY rfl hz) ?_);refine af (aR (b9 (ao rfl) (aC rfl) rfl) rfl rfl ?_);refine af (fz (jG rfl rfl (au (b9 (ao rfl) (aC rfl) rfl) aE) (jN (by omega))) (ay ?_));rw[dw];exact⟨by simpa using hpl,g++g2,_,_,_,by rw[iH,Yt];omega,.val,.val,.val,by rw[gG,kg];rfl⟩
  .subst hfr;rw[aao]at hpl;subst hpl;refine af (aU (ah:=[some (.val (.str t)),some (.val (.lst (p.map aL))),some (.val (.str (dI t (bH p)))),some (.val (.lst (ows (iO t) p))),some (.val (.lst g)),x,y,z,none]) (v:=.tup [.lst (ows (iO t) p),.lst g]) ?_ ⟨g,rfl,rfl⟩);have sh:fK [some (.val (.str t)),some (.val (.lst (p.map aL))),some (.val (.str (dI t (bH p)))),some (.val (.lst (ows (iO t) p))),some (.own g),x,y,z,none]=[some (.val (.str t)),some (.val (.lst (p.map aL))),some (.val (.str (dI t (bH p)))),some (.val (.lst (ows (iO t) p))),some (.val (.lst g)),x,y,z,none]:=by
    show [_,_,_,_,_,x.map Sl.dN,y.map Sl.dN,z.map Sl.dN,_]=_;rw[cy hx,cy hy,cy hz];rfl
   rw[sh];exact cZ (au (ao rfl) (au (ao rfl) aE)) fL
 obtain⟨r,fr,e,g,hr,ho⟩:=key;exact⟨g,bu (fn:=xG) rfl rfl ⟨r,fr,e,hr,ho⟩⟩
def rE{t:List Nat}{rs:List Row}(R:Rw t rs):run prog w (n+8) 26 [.val (.str t),.val (.lst (rs.map aL))]=some (.lst (ows (iO t) rs),[]):=by
 obtain⟨g,h⟩:=A4 (w:=w) (n:=n) R;exact bu (fn:=Dh) rfl rfl (af (aU (b9 (bB (aK rfl (ao rfl) (aK rfl (ao rfl) aM)) (call2 h)) (aC rfl) rfl) ⟨rfl,rfl⟩))
noncomputable def sF(rs K:List Row)(x y z:Option Sl):Fr:=[some (.val (.lst (rs.map aL))),some (.own (K.map aL)),x,y,z]
def xP{rs K:List Row}{r:Row}{X:List Pt}{Q:Fl->Fr->Prop}(hK:K.length<=900)(b1:tot X<=900)(b2:X.length<=900)(q:Q .nx (sF rs (kc K r X) (some (.val (.str r.1))) (some (.val (aQ r.2))) (some (.val (aQ X))))) :
  Wp (exs (run prog w (n+7)) w (.cons (.iff (.cmp .gt (.cl 7 (.cons (.v 4) .nil)) (.c (.int 0))) (.cons (.exp (.me .append (.v 1) (.cons (.tup (.cons (.v 2) (.cons (.v 4) .nil))) .nil))) .nil) .nil) .nil) (sF rs K (some (.val (.str r.1))) (some (.val (aQ r.2))) (some (.val (aQ X))))) Q:=by
 have k:=λfr=>b8 (fr:=fr) (EV (F:=prog) (aO:=4) (i:=7) (w:=w) (n:=n+5) rfl rfl X (by omega) (by omega));by_cases h:cst X=0
 .rw[kc,JP h]at q;exact af (aD (b:=false) (az rfl (aT (bB (aK rfl (ao rfl) aM) (k _)) (aC rfl) nG) (by simp[truthy,h])) (λh=>absurd h (by decide)) λ_=>ay (ay q))
 .rw[kc,Yu h]at q;refine af (aD (b:=true) (az rfl (aT (bB (aK rfl (ao rfl) aM) (k _)) (aC rfl) nG) (by simp[truthy];omega)) (λ_=>?_) λh=>absurd h (by decide));refine af (fz (jG rfl rfl (au (cZ (au (ao rfl) (au (ao rfl) aE)) fL) aE) (lR (by simp;omega))) (ay (ay ?_)));unfold sF at q ⊢;rw[aad]at q;exact q
def u0{K:List Row}{q:Row}(h:q∈K):tot q.2<=dJ (bH K):=by
 induction K with
 |nil=>cases h
 |cons a K ih=>
  have e:dJ (bH (a :: K))=tot a.2+dJ (bH K):=by simp[dJ,bH]
  rw[e];rcases List.mem_cons.mp h with rfl|h
  .omega
  .have:=ih h;omega
def f_len{c:List Pt}(h:bg c=c):c.length<=tot c:=by rw[<-h];exact je (jR (jb _))
def xQ(hw:5000<w){t:List Nat}{rs:List Row}(R:Rw t rs)(hl:rs.length<=100):run prog w (n+8) 29 [.val (.lst (rs.map aL))]=some (.lst ((dc t rs).map aL),[])/\Nm t rs (dc t rs):=by
 have key:Wp (exs (run prog w (n+7)) w xJ.body (dZ xJ [.val (.lst (rs.map aL))])) λr fr=>Nm t rs (dc t rs)/\r=.ret (.lst ((dc t rs).map aL))/\outs 1 fr=[]:=by
  refine af (gg (l:=[]) (jF aE kB) rfl rfl ?_);refine af (ji (vs:=rs.map aL) (cE (cS rfl) rfl) ?_);refine fO (e:=aL) (λp l fr=>p++l=rs/\Nm t p (dc t p)/\∃x y z,vo x/\vo y/\vo z/\fr=sF rs (dc t p) x y z) (λp r l fr ⟨hpl,N,x,y,z,hx,hy,hz,hfr⟩=>?_) (λp fr ⟨hpl,N,x,y,z,hx,hy,hz,hfr⟩=>?_) rs [] _ ⟨rfl,Nm.nil t,none,none,none,.none,.none,.none,rfl⟩
  .subst hfr;obtain⟨h1,h2,h3,h4,h5⟩:=R.at hpl;have es:dc t (p++[r])=stp t (dc t p) r:=by rw[JX];rfl
   have kl:=N.ln;have pl:p.length<=100:=by rw[<-hpl]at hl;simp at hl;omega
   have Zh:=N.tt;have T:∀K' a,dc t p=K'++[(r.1,a)]->∃X,run prog w (n+7) 22 [.val (aQ a),.val (aQ r.2)]=some (aQ X,[])/\Tn a r.2 X (dI t (bH K')):=λK' a e=>by
    have m:(r.1,a)∈dc t p:=by rw[e];simp
    have b1:=u0 m;have b2:=f_len (N.fm _ m).1;have c1:=N.ch;have c2:=N.tx;rw[e]at c1 c2;rw[gG]at c2;exact FG (F:=prog) (aO:=4) (cQ:=25) (bQ:=24) (dY:=23) (bP:=9) (cP:=8) (cR:=5) (er:=6) (i:=22) (w:=w) (n:=n+4) rfl rfl rfl rfl rfl rfl rfl rfl rfl hw a r.2 (dI t (bH K')) (oN.mp c1).2 (by rw[c2];exact h1) (by simp only at b1;omega) (by omega) (by simp only at b1 b2;omega) (by omega)
   have N2:Nm t (p++[r]) (dc t (p++[r])):=by
    rw[es];exact N.step h1 λK' a e=>by obtain⟨X,_,hX⟩:=T K' a e;exact⟨X,hX⟩
   have f:=λfr=>b8 (fr:=fr) (mJ (F:=prog) (bP:=9) (i:=8) (w:=w) (n:=n+5) rfl rfl r.2 (by omega) (by omega));have ft:tot (bg r.2)=tot r.2:=ir _;have Zi:=f_len (kJ r.2);refine dB (ah:=sF rs (dc t p) (some (.val (.str r.1))) (some (.val (aQ r.2))) z) (iP rfl hx rfl hy) ?_;refine af (aR (aq:=sF rs (dc t p) (some (.val (.str r.1))) (some (.val (aQ r.2))) (some (.val (aQ (bg r.2))))) (bB (aK rfl (ao rfl) aM) (f _)) rfl (eY rfl hz) ?_);have fin:∀X,kc (dc t p) r X=dc t (p++[r])->(p++[r])++l=rs/\Nm t (p++[r]) (dc t (p++[r]))/\∃x y z,vo x/\vo y/\vo z/\sF rs (kc (dc t p) r X) (some (.val (.str r.1))) (some (.val (aQ r.2))) (some (.val (aQ X)))=sF rs (dc t (p++[r])) x y z:=λX e=>⟨by simpa using hpl,N2,_,_,_,.val,.val,.val,by rw[e]⟩
   rcases abV (dc t p)with e0|⟨K',q,e0⟩
   .have e1:stp t (dc t p) r=kc (dc t p) r (bg r.2):=nN λK2 q2 e2=>by rw[e0]at e2;simp at e2
    refine af (aD (b:=false) (qI (az rfl (ao rfl) (by rw[e0];rfl))) (λh=>absurd h (by decide)) λ_=>ay ?_);refine xP (by omega) (by omega) (by omega) ?_;rw[dw];exact fin _ (by rw[es,e1])
   .rw[abW]at e0;have il:gf (.lst ((dc t p).map aL)) (.int (-1))=some (aL q):=by
     show bL ((dc t p).map aL) (-1)=_;rw[e0,Cu,aad];simp
    have tr:truthy (.lst ((dc t p).map aL))=true:=by rw[e0];show(!((K'++[q]).map aL).isEmpty)=true;simp
    by_cases ho:q.1=r.1
    .obtain⟨X,rX,TX⟩:=T K' q.2 (by rw[e0,<-ho]);have rX:=λfr=>call2 (fr:=fr) rX;have e1:stp t (dc t p) r=kc K' r X:=by
      rw[e0,show q=(r.1,q.2)by rw[<-ho]];exact xj (o:=r.1) (c:=r.2) TX
     have tX:=TX.tt;have lX:=TX.ln;have mq:=u0 (K:=dc t p) (q:=q) (by rw[e0];simp);refine af (aD (b:=true) (gX (az rfl (ao rfl) tr) (az rfl (aT (b9 (b9 (ao rfl) (qG (aC rfl)) il) (aC rfl) rfl) (ao rfl) eL) (by simp[truthy,ho]))) (λ_=>?_) λh=>absurd h (by decide));have po:gW .pop 1 [] (sF rs (dc t p) (some (.val (.str r.1))) (some (.val (aQ r.2))) (some (.val (aQ (bg r.2))))) (some (some (.own ((dc t p).map aL))))=.ok (aL q) (sF rs K' (some (.val (.str r.1))) (some (.val (aQ r.2))) (some (.val (aQ (bg r.2))))):=by
      rw[e0,aad];exact oG
     refine af (aR (bB (aK rfl (b9 (jG rfl rfl aE po) (aC rfl) rfl) (aK rfl (ao rfl) aM)) (rX _)) rfl rfl (ay ?_));refine xP (by have:=aab List.length e0;simp at this;omega) (by omega) (by omega) ?_;rw[dw];exact⟨by simpa using hpl,N2,_,_,_,.val,.val,.val,by rw[es,e1]⟩
    .have e1:stp t (dc t p) r=kc (dc t p) r (bg r.2):=nN λK2 q2 e2=>by
      rw[e0]at e2;obtain⟨_,e3⟩:=acC e2 rfl;cases e3;exact ho
     refine af (aD (b:=false) (gX (az rfl (ao rfl) tr) (az rfl (aT (b9 (b9 (ao rfl) (qG (aC rfl)) il) (aC rfl) rfl) (ao rfl) eL) (by simp[truthy,ho]))) (λh=>absurd h (by decide)) λ_=>ay ?_);refine xP (by omega) (by omega) (by omega) ?_;rw[dw];exact fin _ (by rw[es,e1])
  .subst hfr;rw[aao]at hpl;subst hpl;refine af (aU (ah:=[some (.val (.lst (p.map aL))),some (.val (.lst ((dc t p).map aL))),x,y,z]) ?_ ⟨N,rfl,rfl⟩);have sh:fK (sF p (dc t p) x y z)=[some (.val (.lst (p.map aL))),some (.val (.lst ((dc t p).map aL))),x,y,z]:=by
    show [_,_,x.map Sl.dN,y.map Sl.dN,z.map Sl.dN]=_;rw[cy hx,cy hy,cy hz];rfl
   rw[sh];exact ao rfl
 obtain⟨r,fr,e,N,hr,ho⟩:=key;exact⟨bu (fn:=xJ) rfl rfl ⟨r,fr,e,hr,ho⟩,N⟩
variable(hn:ns.length<=63)
include hn
theorem Dl(a:Int)(t:List Nat)(ht:t.length<=400):∃c,run prog w (n+7) 35 [.val (fu ns),.val (.int a),.val (.str t)]=some (aQ c,[])/\aX c t=true/\c.length<=14/\tot c<=t.length+21/\((aJ c t).length<=t.length+12\/(aJ c t).length<=27):=by
 have dr:=λ(k:Int) (m:Nat) (hm:0<m) fr=>fY (fr:=fr) (fB (F:=prog) (c:=30) (dr:=31) (w:=w) (n:=n+4) rfl rfl hn k (many:=(m:Int)) (by omega));have ch:=λ(x:List Nat) (hx:x.length<=400) fr=>fY (fr:=fr) (Ay (F:=prog) (c:=30) (dr:=31) (t:=33) (w:=w) (n:=n+3) rfl rfl hn rfl a x (by omega));have ln:cH .len [.str t]=some (.int (t.length:Nat)):=abh (by omega);have d5:=dr (a+60) 5 (by decide);by_cases h5:cU ns (a+60) 5=0
 .by_cases he:t=[]
  .subst he;refine⟨[],bu (fn:=pH) rfl rfl (af (aD (b:=true) (az rfl (aT (bB (aK rfl (ao rfl) (aK rfl (aW (ao rfl) (aC rfl) cI) (aK rfl (aC rfl) aM))) (d5 _)) (aC rfl) sC) (by show decide _=_;exact aaj h5)) (λ_=>?_) λh=>absurd h (by decide))),rfl,by simp,by simp[tot],.inl (by simp[aJ])⟩;exact af (aU (kD (b:=false) (az rfl (aT (ao rfl) (aC rfl) gw) rfl) (λh=>absurd h (by decide)) λ_=>cZ aE uT) ⟨rfl,rfl⟩)
  .have k:=qf t;refine⟨[.keep t.length],bu (fn:=pH) rfl rfl (af (aD (b:=true) (az rfl (aT (bB (aK rfl (ao rfl) (aK rfl (aW (ao rfl) (aC rfl) cI) (aK rfl (aC rfl) aM))) (d5 _)) (aC rfl) sC) (by show decide _=_;exact aaj h5)) (λ_=>?_) λh=>absurd h (by decide))),k.1,by simp,by simp[tot,Pt.n],.inl (by rw[k.2];omega)⟩;exact af (aU (kD (b:=true) (az rfl (aT (ao rfl) (aC rfl) gw) (by show(!decide (t=[]))=true;simp[he])) (λ_=>cZ (au (cZ (au (aC rfl) (au (dh (au (ao rfl) aE) ln) aE)) fL) aE) oA) λh=>absurd h (by decide)) ⟨rfl,rfl⟩)
 .have first:∀{Q:Fl->Fr->Prop},Wp (exs (run prog w (n+6)) w (.cons AO (.cons AQ (.cons AR (.cons AS (.cons AU .nil))))) [some (.val (fu ns)),some (.val (.int a)),some (.val (.str t)),none,none,none]) Q->Wp (exs (run prog w (n+6)) w pH.body (dZ pH [.val (fu ns),.val (.int a),.val (.str t)])) Q:=λq=>
   af (aD (b:=false) (az rfl (aT (bB (aK rfl (ao rfl) (aK rfl (aW (ao rfl) (aC rfl) cI) (aK rfl (aC rfl) aM))) (d5 _)) (aC rfl) sC) (by show decide _=_;exact aac h5)) (λh=>absurd h (by decide)) λ_=>ay q)
  by_cases h7:t.length<7
  .obtain⟨lc,tc⟩:=Hl ns a t 6 (by omega);have dl:=j9 (chg ns a t) t;refine⟨chg ns a t,bu (fn:=pH) rfl rfl (first (af (aD (b:=true) (az rfl (aT (dh (au (ao rfl) aE) ln) (aC rfl) EB) (by show decide _=_;exact aaj (by omega))) (λ_=>?_) λh=>absurd h (by decide)))),zu ns a t,by omega,by omega,.inr (by omega)⟩;exact af (aU (bB (aK rfl (ao rfl) (aK rfl (ao rfl) (aK rfl (ao rfl) aM))) (ch t (by omega) _)) ⟨rfl,rfl⟩)
  .obtain⟨P,eP,hP⟩:=drawn (ns:=ns) (a+61) (t.length - 3) (by omega);have dP:=dr (a+61) (t.length - 3) (by omega);rw[eP]at dP;have ml:((t.drop P).take 3).length=3:=by simp;omega
   obtain⟨lc,tc⟩:=Hl ns a ((t.drop P).take 3) 3 (by omega);have fm:=zu ns a ((t.drop P).take 3);have dm:=j9 (chg ns a ((t.drop P).take 3)) ((t.drop P).take 3);have cm:=ch ((t.drop P).take 3) (by omega);generalize chg ns a ((t.drop P).take 3)=m at lc tc fm dm cm
   have hx:∃H:List Pt,H.length<=1/\tot H=P/\aX H (t.take P)=true/\aJ H (t.take P)=t.take P/\∀fr:Fr,nv true fr 3=some (.int (P:Int))->nv false fr 3=some (.int (P:Int))->ev (run prog w (n+6)) false (.iU (.cmp .gt (.v 3) (.c (.int 0))) (.tup (.cons (.tup (.cons (.c (.str [107,101,101,112])) (.cons (.v 3) .nil))) .nil)) (.tup .nil)) fr=.ok (aQ H) fr:=by
    cases P with
    |zero=>exact⟨[],by simp,by simp[tot],by simp[aX],by simp[aJ],λfr h h'=>kD (b:=false) (az rfl (aT (ao h) (aC rfl) nG) rfl) (λh=>absurd h (by decide)) λ_=>cZ aE uT⟩
    |succ P=>
     have k:=qf (t.take (P+1));rw[show(t.take (P+1)).length=P+1 by simp;omega]at k;exact⟨[.keep (P+1)],by simp,by simp[tot,Pt.n],k.1,k.2,λfr h h'=>kD (b:=true) (az rfl (aT (ao h) (aC rfl) nG) (by show decide _=_;exact aaj (by omega))) (λ_=>cZ (au (cZ (au (aC rfl) (au (ao h') aE)) fL) aE) oA) λh=>absurd h (by decide)⟩
   obtain⟨H,lH,tH,fH,dH,rH⟩:=hx;have kr:=qf (t.drop (P+3));rw[show(t.drop (P+3)).length=t.length - P - 3 by simp;omega]at kr;have A1:=zB fH fm;have A2:=zB A1.1 kr.1;have et:t.take P++(t.drop P).take 3++t.drop (P+3)=t:=by rw[aaz,<-aaC,abT,abT]
   rw[et]at A2;have s1:=PY (a:=t.length) (b:=3) (by omega);have s2:=PY (a:=t.length) (b:=P) (by omega);have s3:=PY (a:=t.length - P) (b:=3) (by omega);have sl:eV (.str t) (some (P:Int)) (some ((P+3:Nat):Int))=some (.str ((t.drop P).take 3)):=by
    rw[fk];exact aab (λz=>some (V.str z)) (j8 t P 3)
   have a1:Pv.bV .add (aQ H) (aQ m)=some (aQ (H++m)):=by
    show Pv.bV .add (.tup (H.map Pt.v)) (.tup (m.map Pt.v))=_;rw[pT (by simp;omega),<-aad];rfl
   have a2:Pv.bV .add (aQ (H++m)) (.tup [.tup [.str [107,101,101,112],.int ((t.length - P - 3:Nat):Int)]])=some (aQ (H++m++[.keep (t.length - P - 3)])):=by
    show Pv.bV .add (.tup ((H++m).map Pt.v)) (.tup [_])=_;rw[pT (by simp;omega)];show _=some (V.tup (((H++m)++[Pt.keep (t.length - P - 3)]).map Pt.v));rw[aad (l₂:=[Pt.keep (t.length - P - 3)])];rfl
   refine⟨H++m++[.keep (t.length - P - 3)],bu (fn:=pH) rfl rfl (first ?_),A2.1,by simp;omega,by rw[eU,eU];simp[tot,Pt.n]at tH tc ⊢;omega,.inl (by rw[A2.2,A1.2,dH,kr.2];simp;omega)⟩;refine af (aD (b:=false) (az rfl (aT (dh (au (ao rfl) aE) ln) (aC rfl) EB) (by show decide _=_;exact aac (by omega))) (λh=>absurd h (by decide)) λ_=>ay ?_);refine af (aR (bB (aK rfl (ao rfl) (aK rfl (aW (ao rfl) (aC rfl) cI) (aK rfl (aW (dh (au (ao rfl) aE) ln) (aC rfl) s1) aM))) (dP _)) rfl rfl ?_);refine af (aR (rH _ rfl rfl) rfl rfl ?_);refine af (aR (aW (aW (dh (au (ao rfl) aE) ln) (ao rfl) s2) (aC rfl) s3) rfl rfl ?_);exact af (aU (aW (aW (ao rfl) (bB (aK rfl (ao rfl) (aK rfl (ao rfl) (aK rfl (gk (ao rfl) (cX (ao rfl)) (cX (aW (ao rfl) (aC rfl) (xN P 3))) sl) aM))) (cm _)) a1) (kD (b:=true) (az rfl (aT (ao rfl) (aC rfl) nG) (by show decide _=_;exact aaj (by omega))) (λ_=>cZ (au (cZ (au (aC rfl) (au (ao rfl) aE)) fL) aE) oA) λh=>absurd h (by decide)) a2) ⟨rfl,rfl⟩)
theorem FT{t:List Nat}(ht:t.length<=4):∃rs,run prog w (n+8) 36 [.val (fu ns),.val (.int 20),.val (.str t),.val (.int 4)]=some (.lst (rs.map aL),[])/\Rw t rs/\rs.length<=4/\∀r∈rs,NW r.1:=by
 have dr:=λ(k:Int) (m:Nat) (hm:0<m) fr=>fY (fr:=fr) (fB (F:=prog) (c:=30) (dr:=31) (w:=w) (n:=n+5) rfl rfl hn k (many:=(m:Int)) (by omega));obtain⟨N,eN,hN⟩:=drawn (ns:=ns) 20 5 (by decide);have d0:=dr 20 5 (by decide);rw[eN]at d0;have key:Wp (exs (run prog w (n+7)) w xK.body (dZ xK [.val (fu ns),.val (.int 20),.val (.str t),.val (.int 4)])) λr fr=>∃rs,(Rw t rs/\rs.length<=4/\∀r∈rs,NW r.1)/\r=.ret (.lst (rs.map aL))/\outs 4 fr=[]:=by
  refine af (gg (l:=[]) (jF aE kB) rfl rfl ?_);refine af (ji (vs:=range 0 N) (qJ (au (bB (aK rfl (ao rfl) (aK rfl (ao rfl) (aK rfl (aW (ao rfl) (aC rfl) cI) aM))) (d0 _)) aE) (Ny (by omega) rfl)) ?_);refine zl (lo:=0) (N:=N) (λk fr=>∃rs x y z,rs.length=k/\Ch t (bH rs)/\(∀r∈rs,r.2.length<=900/\NW r.1)/\(dI t (bH rs)).length<=27+12*k/\dJ (bH rs)<=140*k/\vo x/\vo y/\vo z/\fr=[some (.val (fu ns)),some (.val (.int 20)),some (.val (.str (dI t (bH rs)))),some (.val (.int 4)),some (.own (rs.map aL)),x,y,z]) (λk fr hk ⟨rs,x,y,z,h1,h2,h3,h4,h5,hx,hy,hz,hfr⟩=>?_) (λfr ⟨rs,x,y,z,h1,h2,h3,h4,h5,hx,hy,hz,hfr⟩=>?_) ⟨[],none,none,none,rfl,trivial,(λr hr=>(List.not_mem_nil hr).elim),(by show t.length<=_;omega),(by simp[dJ,bH]),.none,.none,.none,rfl⟩
  .subst hfr;have d1:=dr (20+1+70*((0:Int)+(k:Nat))) 4 (by decide);obtain⟨d,ed,hd⟩:=drawn (ns:=ns) (20+1+70*((0:Int)+(k:Nat))) 4 (by decide);rw[ed]at d1;obtain⟨o,no,ho⟩:∃o:List Nat,NW o/\gf (.lst [.str [97,110,110],.str [98,111],.str [97,110,110],.str [99]]) (.int (d:Int))=some (.str o):=by
    match d,hd with
    |0,_=>exact⟨_,⟨by decide,by decide,by decide⟩,rfl⟩
    |1,_=>exact⟨_,⟨by decide,by decide,by decide⟩,rfl⟩
    |2,_=>exact⟨_,⟨by decide,by decide,by decide⟩,rfl⟩
    |3,_=>exact⟨_,⟨by decide,by decide,by decide⟩,rfl⟩
   obtain⟨c,rc,f1,f2,f3,f4⟩:=Dl (w:=w) (n:=n) hn (20+2+70*((0:Int)+(k:Nat))) (dI t (bH rs)) (by omega);have rc:=λfr=>fY (fr:=fr) rc;have rm:=λfr=>call2 (fr:=fr) (FH (F:=prog) (i:=34) (w:=w) (n:=n+6) rfl c (dI t (bH rs)) (by omega) (by omega) f1);refine dB (bind1 rfl hx) (af (aR (b9 (jF (au (aC rfl) (au (aC rfl) (au (aC rfl) (au (aC rfl) aE)))) (bK (aZ (by simp)))) (bB (aK rfl (ao rfl) (aK rfl (aW (aW (ao rfl) (aC rfl) cI) (aW (aC rfl) (ao rfl) (kF (Ho _))) cI) (aK rfl (aC rfl) aM))) (d1 _)) ho) rfl (eY rfl hy) ?_));refine af (aR (bB (aK rfl (ao rfl) (aK rfl (aW (aW (ao rfl) (aC rfl) cI) (aW (aC rfl) (ao rfl) (kF (Ho _))) cI) (aK rfl (ao rfl) aM))) (rc _)) rfl (eY rfl hz) ?_);refine af (aR (bB (aK rfl (ao rfl) (aK rfl (ao rfl) aM)) (rm _)) rfl rfl ?_);refine af (fz (jG rfl rfl (au (cZ (au (ao rfl) (au (ao rfl) aE)) fL) aE) (lR (by simp;omega))) (ay ?_));rw[dw];refine⟨rs++[(o,c)],_,_,_,by simp[h1],oN.mpr ⟨h2,f1⟩,λr hr=>?_,?_,?_,.val,.val,.val,by rw[gG,aad];rfl⟩
   .rcases List.mem_append.mp hr with hr|hr
    .exact h3 r hr
    .rw[abj]at hr;subst hr;exact⟨by simp only;omega,no⟩
   .rw[gG];simp only;omega
   .rw[iH];simp only;omega
  .subst hfr;refine af (aU (ah:=[some (.val (fu ns)),some (.val (.int 20)),some (.val (.str (dI t (bH rs)))),some (.val (.int 4)),some (.val (.lst (rs.map aL))),x,y,z]) ?_ ⟨rs,⟨⟨h2,λr hr=>(h3 r hr).1,by omega⟩,by omega,λr hr=>(h3 r hr).2⟩,rfl,rfl⟩);have sh:fK [some (.val (fu ns)),some (.val (.int 20)),some (.val (.str (dI t (bH rs)))),some (.val (.int 4)),some (.own (rs.map aL)),x,y,z]=[some (.val (fu ns)),some (.val (.int 20)),some (.val (.str (dI t (bH rs)))),some (.val (.int 4)),some (.val (.lst (rs.map aL))),x,y,z]:=by
    show [_,_,_,_,_,x.map Sl.dN,y.map Sl.dN,z.map Sl.dN]=_;rw[cy hx,cy hy,cy hz];rfl
   rw[sh];exact ao rfl
 obtain⟨r,fr,e,rs,h,hr,ho⟩:=key;exact⟨rs,bu (fn:=xK) rfl rfl ⟨r,fr,e,hr,ho⟩,h⟩
omit hn in
theorem Nm.rw{t:List Nat}{rs K:List Row}(N:Nm t rs K)(R:Rw t rs):Rw t K:=⟨N.ch,λq hq=>by
 have h1:=u0 hq;have h2:=f_len (N.fm q hq).1;have h3:=N.tt;have h4:=R.tt;omega,by have h3:=N.tt;have h4:=R.tt;omega⟩
end
def Hs{α:Type}(m:List α)(x:α):cut (m++[x]) none (some (-1))=m:=by
 have e:((-1:Int)+((m.length:Int)+1)).toNat=m.length:=by omega
 simp[cut,Ev.aS,e]
def Rw.pre{t:List Nat}{p l:List Row}(R:Rw t (p++l)):Rw t p:=by
 have h1:=R.ch;have h2:=R.tt;have e:∀x y:List Row,dJ (bH (x++y))=dJ (bH x)+dJ (bH y):=λx y=>by simp[dJ,bH]
 rw[e]at h2;rw[lV]at h1;exact⟨(nM.mp h1).1,λr hr=>R.ln r (aaO _ hr),by omega⟩
def Rw.wd{t:List Nat}{rs:List Row}(R:Rw t rs){r:Row}(h:r∈rs):r.2.length<=900/\tot r.2<=900:=by
 have h1:=u0 h;have h2:=R.tt;exact⟨R.ln r h,by omega⟩
section
variable{w n:Nat}
def P0{c:List Pt}{fr:Fr}(h1:c.length<=900)(h2:tot c<=900):fW (run prog w (n+8)) 0 [.inr (aQ c)] fr=.ok (.bl (jq c)) fr:=
 b8 (sO (F:=prog) (bX:=2) (bY:=3) (dR:=1) (i:=0) (w:=w) (n:=n+5) rfl rfl rfl rfl c (by omega) (by omega))
def sV{K:List Row}{fr:Fr}(h:∀r∈K,WR r)(hl:K.length<=100):fW (run prog w (n+8)) 16 [.inr (.lst (K.map aL))] fr=.ok (.str (ot K)) fr:=
 b8 (sQ (F:=prog) (mS:=10) (i:=16) (w:=w) (n:=n+6) rfl rfl h hl)
def A5{K:List Row}(h:∀r∈K,WR r)(hl:K.length<=100):run prog w (n+8) 17 [.val (.str (ot K))]=some (.lst (K.map aL),[]):=
 sU (F:=prog) (bX:=2) (bY:=3) (dR:=1) (jK:=0) (g7:=14) (lz:=13) (sR:=12) (sS:=19) (FP:=15) (AN:=18) (i:=17) (w:=w) (n:=n+2) rfl rfl rfl rfl rfl rfl rfl rfl rfl rfl rfl h hl
def P1{a b:List Row}(ha:∀r∈a,WR r)(hb:∀r∈b,WR r)(la:a.length<=100)(lb:b.length<=100)(e:ot a=ot b):a=b:=by
 have h1:=A5 (w:=0) (n:=0) ha la;have h2:=A5 (w:=0) (n:=0) hb lb;rw[e,h2]at h1;have h3:b.map aL=a.map aL:=by
  have:=aab (λx=>x.map Prod.fst) h1;simpa using this
 have h4:=jM oO a b;have h5:=jM oO a a;rw[h3]at h4;rw[h4]at h5;simpa using h5
def P4(a b:List Row):ot (a++b)=ot a++ot b:=by simp[ot]
def Dm(K:List Row):rt (bH K)=(K.map λr=>ct r.2++[10]).flatten:=by unfold rt bH;rw[aaD];rfl
noncomputable def eF(ns:List Int)(t:List Nat)(rs fw:List Row)(a4 a5 a6 a7:Option Sl):Fr:=[some (.val (fu ns)),some (.val (.str t)),some (.val (.lst (rs.map aL))),some (.val (.lst (fw.map aL))),a4,a5,a6,a7,none,none,none,none,none,none,none]
variable{ns:List Int}(hn:ns.length<=63)
include hn
theorem J1{t:List Nat}{rs fw K:List Row}(hK:∀r∈K,WR r)(hl:K.length<=8){a5 a6 a7:Option Sl}(v5:vo a5)(v6:vo a6)(v7:vo a7){Q:Fl->Fr->Prop}(q:∀b5 b6 b7,vo b5->vo b6->vo b7->Q .nx (eF ns t rs fw (some (.val (.lst (K.map aL)))) b5 b6 b7)) :
  Wp (exs (run prog w (n+8)) w AW (eF ns t rs fw (some (.val (.lst (K.map aL)))) a5 a6 a7)) Q:=by
 have ln:cH .len [.lst (K.map aL)]=some (.int (K.length:Nat)):=by rw[zh,aaw]
 have iu:pR (.str (ot K)) (.str [10])=some ((K.map λr=>V.str (ol r))++[.str []]):=by
  show(if 10<128 then some ((Ev.bC 10 (ot K)).map V.str)else none)=_;rw[JP (by decide),xF hK];simp
 have mk:dQ ((K.map λr=>V.str (ol r))++[.str []])=some (.lst ((K.map λr=>V.str (ol r))++[.str []])):=bK (aZ (by simp;omega));have l2:cH .len [.lst ((K.map λr=>V.str (ol r))++[.str []])]=some (.int ((K.length+1:Nat):Int)):=by rw[zh];simp
 have ad:Pv.bV .add (.int (K.length:Nat)) (.int 1)=some (.int ((K.length+1:Nat):Int)):=xN K.length 1;obtain⟨k,ek,hk⟩:=drawn (ns:=ns) 10 (K.length+1) (by omega);have d:=λfr=>fY (fr:=fr) (fB (F:=prog) (c:=30) (dr:=31) (w:=w) (n:=n+6) rfl rfl hn 10 (many:=((K.length+1:Nat):Int)) (by omega));rw[ek]at d;have s1:eV (.lst (K.map aL)) none (some (k:Int))=some (.lst ((K.take k).map aL)):=by
  show dQ (cut _ _ _)=_;rw[uZ,<-List.map_take];exact bK (aZ (by simp;omega))
 have s2:eV (.lst (K.map aL)) (some (k:Int)) none=some (.lst ((K.drop k).map aL)):=by
  show dQ (cut _ _ _)=_;rw[qU,<-List.map_drop];exact bK (aZ (by simp;omega))
 have h1:∀r∈K.take k,WR r:=λr hr=>hK r (List.mem_of_mem_take hr);have h2:∀r∈K.drop k,WR r:=λr hr=>hK r (List.mem_of_mem_drop hr);have b1:=rD h1;have b2:=rD h2;have Zj:(K.take k).length<=8:=by simp;omega
 have Zk:(K.drop k).length<=8:=by simp;omega
 have s3:eV (.lst ((K.map λr=>V.str (ol r))++[.str []])) none (some (-1))=some (.lst (K.map λr=>V.str (ol r))):=by
  show dQ (cut _ _ _)=_;rw[Hs];exact bK (aZ (by simp;omega))
 have hr:∀c∈bH K,Wide c:=λc hc=>by
  obtain⟨r,hr,rfl⟩:=List.mem_map.mp hc;exact(hK r hr).wd
 have hj:Pv.dz .join (.str []) [.lst (K.map λr=>V.str (ct r.2++[10]))]=some (.str (rt (bH K))):=by
  have h3:=xy hr;rw[show(bH K).length=K.length by simp[bH]]at h3;have:=qD (l:=K.map λr=>ct r.2++[10]) (by rw[<-Dm];omega);rw[aaD,<-Dm]at this;exact this
 have rr:=λfr=>b8 (fr:=fr) (uF (F:=prog) (mS:=10) (i:=11) (w:=w) (n:=n+6) (s0:=.val .bz) (os:=[]) rfl rfl hr (by simp[bH];omega));rw[show(bH K).map aQ=K.map λr=>aQ r.2 by unfold bH;rw[aaD];rfl]at rr;refine af (aR (aq:=eF ns t rs fw (some (.val (.lst (K.map aL)))) (some (.val (.str (ot K)))) a6 a7) (bB (aK rfl (ao rfl) aM) (sV hK (by omega))) rfl (eY rfl v5) ?_);refine af (aD (b:=false) (fy (az rfl (aT (bB (aK rfl (ao rfl) aM) (b8 (A5 hK (by omega)))) (ao rfl) (nR K)) rfl) (az rfl (aT (dh (au (mE (qK (ao rfl) (aC rfl) iu) mk) aE) l2) (aW (dh (au (ao rfl) aE) ln) (aC rfl) ad) qL) (by simp[truthy]))) (λz=>absurd z (by decide)) λ_=>ay ?_);refine af (aR (aq:=eF ns t rs fw (some (.val (.lst (K.map aL)))) (some (.val (.str (ot K)))) (some (.val (.int (k:Nat)))) a7) (bB (aK rfl (ao rfl) (aK rfl (aC rfl) (aK rfl (aW (dh (au (ao rfl) aE) ln) (aC rfl) ad) aM))) (d _)) rfl (eY rfl v6) ?_);refine af (aD (b:=false) (az rfl (aT (aW (bB (aK rfl (gk (ao rfl) fZ (cX (ao rfl)) s1) aM) (sV h1 (by omega))) (bB (aK rfl (gk (ao rfl) (cX (ao rfl)) fZ s2) aM) (sV h2 (by omega))) (dU (by omega))) (ao rfl) gw) ?_) (λz=>absurd z (by decide)) λ_=>ay ?_)
 .show(!decide (ot (K.take k)++ot (K.drop k)=ot K))=false;rw[<-P4,abT];simp
 refine af (aR (v:=.str (rt (bH K))) (aq:=eF ns t rs fw (some (.val (.lst (K.map aL)))) (some (.val (.str (ot K)))) (some (.val (.int (k:Nat)))) (some (.val (.str (rt (bH K)))))) (kE rfl (aC rfl) (au (di (cE (gk (mE (qK (ao rfl) (aC rfl) iu) mk) fZ (cX (qG (aC rfl))) s3) rfl) rfl (cD (λr=>V.str (ol r)) (λr=>V.str (ct r.2++[10])) K λr hr=>?_) (bK (aZ (by simp;omega)))) aE) hj) rfl (eY rfl v7) ?_)
 .have W:=hK r hr;have c1:=nT W.wd;have fi:Pv.dz .idxs (.str (ol r)) [.str [58,32]]=some (.int (r.1.length:Nat)):=by
   show(Ev.findS [58,32] 0 (ol r)).map _=_;unfold ol;rw[sP r.1 0 λx hx=>(xE (W.nm.al x hx)).1];simp
  have sl:eV (.str (ol r)) (some ((r.1.length+2:Nat):Int)) none=some (.str (ct r.2)):=by
   rw[fk,qU];unfold ol;rw[show r.1.length+2=r.1.length+2 from rfl,<-aaC,List.drop_left];rfl
  exact dD rfl (aW (gk (ao rfl) (cX (aW (kE rfl (ao rfl) (au (aC rfl) aE) fi) (aC rfl) (xN r.1.length 2))) fZ sl) (aC rfl) (dU (by simp;omega)))
 refine af (aD (b:=false) (az rfl (aT (ao rfl) (bB (aK rfl (di (cE (cS rfl) rfl) rfl (cD aL (λr=>aQ r.2) K λr hr=>?_) (bK (aZ (by simp;omega)))) aM) (rr _)) gw) (by simp[truthy])) (λz=>absurd z (by decide)) λ_=>ay (ay (q _ _ _ .val .val .val)));exact dD rfl (ao rfl)
theorem J2(hw:5000<w){t:List Nat}{rs:List Row}(R:Rw t rs)(hl:rs.length<=4)(hr:∀r∈rs,WR r){Q:Fl->Fr->Prop}(q:∀fr,outs 1 fr=[]->Q (.ret (.bl true)) fr) :
  Wp (exs (run prog w (n+8)) w (.cons AV (.cons AX (.cons AY (.cons AZ .nil)))) [some (.val (fu ns)),some (.val (.str t)),some (.val (.lst (rs.map aL))),none,none,none,none,none,none,none,none,none,none,none,none]) Q:=by
 obtain⟨sq,N⟩:=xQ (w:=w) (n:=n) hw R (by omega);have RS:=Nm.rw N R;have hfw:∀r∈(dc t rs).filter (λr=>jq r.2),WR r:=λr hr'=>by
  obtain⟨h1,h2⟩:=List.mem_filter.mp hr';obtain⟨q,hq,e⟩:=N.sb r h1;exact⟨by rw[<-e];exact(hr q hq).nm,(Dc r.2).mp (by simpa using h2)⟩
 have Y3:((dc t rs).filter (λr=>jq r.2)).length<=4:=aaa (abU ..) (aaa N.ln hl);have cf:bR (dX (run prog w (n+8)) (.v 11) (.one 11) (.yes (.cl 0 (.cons (.ix (.v 11) (.c (.int 1))) .nil))) [some (.val (fu ns)),some (.val (.str t)),some (.val (.lst (rs.map aL))),none,none,none,none,none,none,none,none,none,none,none,none]) ((dc t rs).map aL)=some (((dc t rs).filter (λr=>jq r.2)).map aL):=
  j4 aL (λr=>jq r.2) aL (dc t rs) λr hr'=>by
   have:=RS.wd hr';exact sA rfl (az rfl (bB (aK rfl (b9 (ao rfl) (aC rfl) rfl) aM) (P0 this.1 this.2)) rfl) λ_=>ao rfl
 generalize hF:(dc t rs).filter (λr=>jq r.2)=fw at hfw Y3 cf
 refine af (aR (aq:=eF ns t rs fw none none none none) (di (cE (bB (aK rfl (ao rfl) aM) (b8 sq)) rfl) rfl cf (bK (aZ (by simp;omega)))) rfl rfl ?_);have ad:Pv.bV .add (.lst (rs.map aL)) (.lst (fw.map aL))=some (.lst ((rs++fw).map aL)):=by
  rw[Er (by simp;omega),aad]
 have rv:Pv.lJ (.lst (rs.map aL))=some (.lst (rs.reverse.map aL)):=by
  rw[IZ,<-List.map_reverse];exact bK (aZ (by simp;omega))
 have mt:iV [.lst (rs.map aL),.lst (fw.map aL),.lst ((rs++fw).map aL),.lst (rs.reverse.map aL)]=some (.tup ([rs,fw,rs++fw,rs.reverse].map λK=>V.lst (K.map aL))):=rfl;refine af (ji (vs:=[rs,fw,rs++fw,rs.reverse].map λK=>V.lst (K.map aL)) (ah:=eF ns t rs fw none none none none) (cE (cZ (au (ao rfl) (au (ao rfl) (au (aW (ao rfl) (ao rfl) ad) (au (Nq (ao rfl) rv) aE)))) mt) rfl) ?_);have Xh:∀K∈[rs,fw,rs++fw,rs.reverse],(∀r∈K,WR r)/\K.length<=8:=λK hK=>by
  simp only[aaY,acB,or_false]at hK;rcases hK with rfl|rfl|rfl|rfl
  .exact⟨hr,by omega⟩
  .exact⟨hfw,by omega⟩
  .exact⟨λr h=>(List.mem_append.mp h).elim (hr r) (hfw r),by simp;omega⟩
  .exact⟨λr h=>hr r (List.mem_reverse.mp h),by simp;omega⟩
 refine fO (e:=λ(K:List Row)=>V.lst (K.map aL)) (λp l fr=>(∀K∈l,(∀r∈K,WR r)/\K.length<=8)/\∃a4 a5 a6 a7,vo a4/\vo a5/\vo a6/\vo a7/\fr=eF ns t rs fw a4 a5 a6 a7) (λp K l fr ⟨hp,a4,a5,a6,a7,v4,v5,v6,v7,hfr⟩=>?_) (λp fr ⟨hp,a4,a5,a6,a7,v4,v5,v6,v7,hfr⟩=>?_) _ [] _ ⟨Xh,none,none,none,none,.none,.none,.none,.none,rfl⟩
 .subst hfr;obtain⟨h1,h2⟩:=hp K (aaG ..);refine dB (ah:=eF ns t rs fw (some (.val (.lst (K.map aL)))) a5 a6 a7) (bind1 rfl v4) ?_;refine J1 hn h1 h2 v5 v6 v7 λb5 b6 b7 w5 w6 w7=>?_;rw[dw];exact⟨λx hx=>hp x (aag _ hx),_,_,_,_,.val,w5,w6,w7,rfl⟩
 .subst hfr;have eR:Pv.cop .eq (.lst (rs.map aL)) (.lst (fw.map aL))=some (decide (rs=fw)):=by rw[Cq,oB,jM oO]
  have Y4:∀{p q:Bool},Pv.cop .ne (.bl p) (.bl q)=some (!decide (p=q)):=λ{p q}=>by rw[nF,IX];rfl
  refine af (aD (b:=false) (az rfl (aT (aT (bB (aK rfl (ao rfl) aM) (sV hr (by omega))) (bB (aK rfl (ao rfl) aM) (sV hfw (by omega))) eL) (aT (ao rfl) (ao rfl) eR) Y4) ?_) (λz=>absurd z (by decide)) λ_=>ay ?_)
  .show(!decide (decide (ot rs=ot fw)=decide (rs=fw)))=false;by_cases e:rs=fw
   .simp[e]
   .have e2:ot rs≠ot fw:=λz=>e (P1 hr hfw (by omega) (by omega) z);simp[e,e2]
  .have sm:Pv.cop .eq (.lst (ows (iO t) rs)) (.lst (ows (iO t) rs))=some true:=by
    rw[Cq,oB];exact Hq (Dk rs λv hv=>by
     obtain⟨_,_,rfl⟩:=List.mem_map.mp hv;exact .inl rfl)
   refine af (aU (ah:=eF ns t rs fw a4 a5 a6 a7) ?_ (q _ rfl));rw[show fK (eF ns t rs fw a4 a5 a6 a7)=eF ns t rs fw a4 a5 a6 a7 by
    show [_,_,_,_,a4.map Sl.dN,a5.map Sl.dN,a6.map Sl.dN,a7.map Sl.dN,_,_,_,_,_,_,_]=_;rw[cy v4,cy v5,cy v6,cy v7];rfl]
   exact aT (bB (aK rfl (ao rfl) (aK rfl (bB (aK rfl (bB (aK rfl (ao rfl) aM) (sV hr (by omega))) aM) (b8 (A5 hr (by omega)))) aM)) (call2 (rE R))) (bB (aK rfl (ao rfl) (aK rfl (ao rfl) aM)) (call2 (rE R))) sm
theorem P5(hw:5000<w):run prog w (n+9) 37 [.val (fu ns)]=some (.bl true,[]):=by
 have ht:(txt ns 0 4).length<=4:=Jt ns 0 (most:=4) (by decide);have r1:=λfr=>fY (fr:=fr) (ED (F:=prog) (c:=30) (dr:=31) (t:=32) (w:=w) (n:=n+5) rfl rfl hn rfl 0 4 (by decide) (by decide));generalize txt ns 0 4=t at ht r1
 obtain⟨rs,r2,R,hl,hN⟩:=FT (w:=w) (n:=n) hn ht;have VD:∀{p:List Row},p.length<=4->dQ (p.map aL)=some (.lst (p.map aL)):=λh=>bK (aZ (by simp;omega));refine bu (fn:=Di) rfl rfl ?_;refine af (aR (bB (aK rfl (ao rfl) (aK rfl (aC rfl) (aK rfl (aC rfl) aM))) (r1 _)) rfl rfl ?_);refine af (aR (aq:=[some (.val (fu ns)),some (.val (.str t)),some (.val (.lst (rs.map aL))),none,none,none,none,none,none,none,none,none,none,none,none]) (di (cE (bB (aK rfl (ao rfl) (aK rfl (aC rfl) (aK rfl (ao rfl) (aK rfl (aC rfl) aM)))) (Rh r2)) rfl) rfl (cD aL aL rs λr _=>dD rfl (ao rfl)) (VD hl)) rfl rfl ?_);refine af (GR (qF (λk fr=>∃p l,p++l=rs/\k=p.length/\fr=[some (.val (fu ns)),some (.val (.str t)),some (.val (.lst (p.map aL))),none,none,none,none,none,none,none,none,none,none,none,none]) (λk fr hI=>?_) w rs.length _ (by omega) ⟨rs,[],by simp,rfl,rfl⟩));obtain⟨p,l,e,rfl,rfl⟩:=hI;have Rp:Rw t p:=Rw.pre (by rw[e];exact R);have lp:p.length<=4:=by rw[<-e]at hl;simp at hl;omega
 have cf:bR (dX (run prog w (n+8)) (.v 10) (.many [9,10]) (.yes (.nt (.cl 0 (.cons (.v 10) .nil)))) [some (.val (fu ns)),some (.val (.str t)),some (.val (.lst (p.map aL))),none,none,none,none,none,none,none,none,none,none,none,none]) (p.map aL)=some ((p.filter (λr=>!jq r.2)).map λr=>aQ r.2):=
  j4 aL (λr=>!jq r.2) (λr=>aQ r.2) p λr hr'=>by
   have:=Rp.wd hr';exact sA rfl (gb (az rfl (bB (aK rfl (ao rfl) aM) (P0 this.1 this.2)) rfl)) λ_=>ao rfl
 have lf:(p.filter (λr=>!jq r.2)).length<=4:=aaa (abU ..) lp;have CC:∀L:List V,Pv.cop .ne (.lst L) (.lst [])=some (!L.isEmpty):=λL=>by
  rw[nF,oB];cases L<;>rfl
 refine⟨!((p.filter (λr=>!jq r.2)).map λr=>aQ r.2).isEmpty,_,az rfl (aT (di (cE (cS rfl) rfl) rfl cf (bK (aZ (by simp;omega)))) (jF aE kB) (CC _)) rfl,?_⟩;dsimp only;cases hp:((p.filter (λr=>!jq r.2)).map λr=>aQ r.2).isEmpty with
 |true=>
  rw[Bool.not_true,Yu aaM];have h0:p.filter (λr=>!jq r.2)=[]:=by simpa using hp
  have hr:∀r∈p,WR r:=λr hr=>by
   have:=List.filter_eq_nil_iff.mp h0 r hr;exact⟨hN r (by rw[<-e];exact aaO _ hr),(Dc r.2).mp (by simpa using this)⟩
  exact J2 hn hw Rp lp hr λfr ho=>⟨rfl,ho⟩
 |false=>
  rw[Bool.not_false,JP rfl];rcases abV p with e0|⟨p',x,e0⟩
  .rw[e0]at hp;simp at hp
  .rw[abW]at e0;subst e0;have s1:eV (.lst ((p'++[x]).map aL)) none (some (-1))=some (.lst (p'.map aL)):=by
    show dQ (cut _ _ _)=_;rw[aad,List.map_singleton,Hs];exact VD (by simp at lp;omega)
   refine af (aR (gk (ao rfl) fZ (cX (qG (aC rfl))) s1) rfl rfl (ay ?_));rw[dw];exact⟨p'.length,by simp,p',x :: l,by simpa using e,rfl,rfl⟩
end
def good:∀ns:List Int,ns.length<=63->∃h',Ev.run prog 100000 60 37 [.ref 0] [.bU (ns.map Ev.D.int)]=.ok (.bl true) h':=λns h=>IV (P5 (w:=100000) (n:=51) h (by decide))
end Lg
theorem Lw.good:∀ns:List Int,ns.length<=63->∃h',Ev.run Lw.prog 100000 60 37 [.ref 0] [.bU (ns.map Ev.D.int)]=.ok (.bl true) h':=Lg.good
namespace PySem.W.Fast
theorem tw9774097416245248127:True:=⟨⟩
theorem tw6992146214359065567:True:=⟨⟩
theorem tw15396795656926100263:True:=⟨⟩
theorem tw18092366603235279165:True:=⟨⟩
theorem tw2667149188687707928:True:=⟨⟩
theorem tw4961302079672456455:True:=⟨⟩
theorem tw2993730441148062898:True:=⟨⟩
theorem tw7661585945894591307:True:=⟨⟩
theorem tw5703829272579520203:True:=⟨⟩
theorem tw14434595712910927793:True:=⟨⟩
theorem tw2108242372322946924:True:=⟨⟩
theorem tw15546350124056910534:True:=⟨⟩
theorem tw6305256038592635123:True:=⟨⟩
theorem tw5812838235901296134:True:=⟨⟩
theorem tw11138932714880838717:True:=⟨⟩
theorem tw8893690354355455872:True:=⟨⟩
theorem tw10668103180984126948:True:=⟨⟩
theorem tw9161110784696280577:True:=⟨⟩
theorem tw9025757023748901543:True:=⟨⟩
theorem tw7206218627934839460:True:=⟨⟩
theorem tw2935963592729656771:True:=⟨⟩
theorem tw2852222637000772236:True:=⟨⟩
theorem tw9700038538336994448:True:=⟨⟩
theorem tw3467078640983815949:True:=⟨⟩
theorem tw5869672235747553336:True:=⟨⟩
theorem tw11566237953994927520:True:=⟨⟩
theorem tw3148969703445510180:True:=⟨⟩
theorem tw2894318265664283776:True:=⟨⟩
theorem tw3955849550411262756:True:=⟨⟩
theorem tw3077048837823923259:True:=⟨⟩
theorem tw3927732884632401510:True:=⟨⟩
theorem tw17426025606214887569:True:=⟨⟩
theorem tw1033792096731661319:True:=⟨⟩
theorem tw16447974871800178653:True:=⟨⟩
theorem tw11444384504699133432:True:=⟨⟩
theorem tw11797748235422457874:True:=⟨⟩
theorem tw4421628386112743318:True:=⟨⟩
theorem tw12807281615846456143:True:=⟨⟩
theorem tw11903061066900609874:True:=⟨⟩
theorem tw5327272470998809025:True:=⟨⟩
theorem tw12799096710641286317:True:=⟨⟩
theorem tw7445747920956169836:True:=⟨⟩
theorem tw9557673677667949845:True:=⟨⟩
theorem tw16197462765971425829:True:=⟨⟩
theorem tw14777358517843051131:True:=⟨⟩
theorem tw12134574198377082991:True:=⟨⟩
theorem tw13024511463013453252:True:=⟨⟩
theorem tw4859414868547095334:True:=⟨⟩
theorem tw16305976306747460207:True:=⟨⟩
theorem tw15483519543305155862:True:=⟨⟩
theorem tw12618928022992675499:True:=⟨⟩
theorem tw14840040243667867320:True:=⟨⟩
theorem tw7932780499011376128:True:=⟨⟩
theorem tw14633909686324136405:True:=⟨⟩
theorem tw7312683598604195208:True:=⟨⟩
theorem tw5680459114420063758:True:=⟨⟩
theorem tw12274742559683612479:True:=⟨⟩
theorem tw15417856632037854647:True:=⟨⟩
theorem tw16358522903621911218:True:=⟨⟩
theorem tw2135814735723454941:True:=⟨⟩
theorem tw7457180363215367357:True:=⟨⟩
theorem tw484156712712129899:True:=⟨⟩
theorem tw16984518958513022866:True:=⟨⟩
theorem tw2217016071485670641:True:=⟨⟩
theorem tw16183145983102430612:True:=⟨⟩
theorem tw6310492348098680437:True:=⟨⟩
theorem tw1636513198681868859:True:=⟨⟩
theorem tw18179427071832233400:True:=⟨⟩
theorem tw3604443796041641963:True:=⟨⟩
theorem tw1794952640663565568:True:=⟨⟩
theorem tw16338227402824593091:True:=⟨⟩
theorem tw10630682864473536233:True:=⟨⟩
theorem tw16322594933782670773:True:=⟨⟩
theorem tw11332285482665838456:True:=⟨⟩
theorem tw1834252948634241395:True:=⟨⟩
theorem tw32749111202422080:True:=⟨⟩
theorem tw4836772881172058541:True:=⟨⟩
theorem tw5156467361903753486:True:=⟨⟩
theorem tw15533237988646012030:True:=⟨⟩
theorem tw16409993495295231073:True:=⟨⟩
theorem tw17180575876197697688:True:=⟨⟩
theorem tw3833479402475177269:True:=⟨⟩
theorem tw15108208484197471623:True:=⟨⟩
theorem tw7715982550685504030:True:=⟨⟩
theorem tw16652348828037989101:True:=⟨⟩
theorem tw16355797787035243097:True:=⟨⟩
theorem tw1605245136604698598:True:=⟨⟩
theorem tw3118571437224598596:True:=⟨⟩
theorem tw14157071764114745707:True:=⟨⟩
theorem tw4022529304300991339:True:=⟨⟩
theorem tw9596687395196520985:True:=⟨⟩
theorem tw17426946733772293374:True:=⟨⟩
theorem tw6469568297025117831:True:=⟨⟩
theorem tw5810385433500787868:True:=⟨⟩
theorem tw4245694020870285560:True:=⟨⟩
theorem tw7911883267906184381:True:=⟨⟩
theorem tw6608532881273038982:True:=⟨⟩
theorem tw323736691226314366:True:=⟨⟩
theorem tw3612796994364219478:True:=⟨⟩
theorem tw13300663624236986000:True:=⟨⟩
theorem tw12209943587734636093:True:=⟨⟩
theorem tw13141246063942200324:True:=⟨⟩
theorem tw14883284260438094950:True:=⟨⟩
theorem tw3103600926563534867:True:=⟨⟩
theorem tw16418202765069275292:True:=⟨⟩
theorem tw12379989166800686983:True:=⟨⟩
theorem tw7752058119211196238:True:=⟨⟩
theorem tw1794986505732104762:True:=⟨⟩
theorem tw424529130684283654:True:=⟨⟩
theorem tw11951264850339804571:True:=⟨⟩
theorem tw15082064663211313618:True:=⟨⟩
theorem tw14502116397549004040:True:=⟨⟩
theorem tw13562961815459727220:True:=⟨⟩
theorem tw15390544716314915984:True:=⟨⟩
theorem tw13281417720683280594:True:=⟨⟩
theorem tw930698026461382955:True:=⟨⟩
theorem tw8949871769556316957:True:=⟨⟩
theorem tw1273641248998126426:True:=⟨⟩
theorem tw1517437862861358677:True:=⟨⟩
theorem tw12039625196370642097:True:=⟨⟩
theorem tw5312375441592430601:True:=⟨⟩
theorem tw658241554858254605:True:=⟨⟩
theorem tw17823981736965934068:True:=⟨⟩
theorem tw11334521800938946337:True:=⟨⟩
theorem tw1442230258648247198:True:=⟨⟩
theorem tw6614384825216595427:True:=⟨⟩
theorem tw16169093466810415714:True:=⟨⟩
theorem tw8009817195996070974:True:=⟨⟩
theorem tw16865746796817603751:True:=⟨⟩
theorem tw8838461142695082360:True:=⟨⟩
theorem tw1160042036643449412:True:=⟨⟩
theorem tw14317492202756334286:True:=⟨⟩
theorem tw13675710742459973278:True:=⟨⟩
theorem tw7679004539818594461:True:=⟨⟩
theorem tw3263698402311445590:True:=⟨⟩
theorem tw15819159463771017876:True:=⟨⟩
theorem tw3358921031219200701:True:=⟨⟩
theorem tw14915574678031830153:True:=⟨⟩
theorem tw2139696707573848303:True:=⟨⟩
theorem tw12527821745126955070:True:=⟨⟩
theorem tw16959938483222790719:True:=⟨⟩
theorem tw13672296263520196707:True:=⟨⟩
theorem tw12472212192509675613:True:=⟨⟩
theorem tw5332947456479431937:True:=⟨⟩
theorem tw12735382942998458914:True:=⟨⟩
theorem tw2263951699614046050:True:=⟨⟩
theorem tw16990309673938356632:True:=⟨⟩
theorem tw10879892238905382142:True:=⟨⟩
theorem tw2569340959114249535:True:=⟨⟩
theorem tw14096890015770124609:True:=⟨⟩
theorem tw13595552147157799825:True:=⟨⟩
theorem tw9581083992575673051:True:=⟨⟩
theorem tw10567396230347089146:True:=⟨⟩
theorem tw18168928305192854982:True:=⟨⟩
theorem tw6011232975742247963:True:=⟨⟩
theorem tw12647756964459531211:True:=⟨⟩
theorem tw5538494906478674813:True:=⟨⟩
theorem tw5013330518905640212:True:=⟨⟩
theorem tw10371084419427814732:True:=⟨⟩
theorem tw15469502603317443758:True:=⟨⟩
theorem tw4781483765842928588:True:=⟨⟩
theorem tw3747301030291370376:True:=⟨⟩
theorem tw18195331030164467529:True:=⟨⟩
theorem tw15731901993436404117:True:=⟨⟩
theorem tw1301047958145542899:True:=⟨⟩
theorem tw13481895856234693239:True:=⟨⟩
theorem tw5434474115259920046:True:=⟨⟩
theorem tw14944975998949840471:True:=⟨⟩
theorem tw16961264922148565493:True:=⟨⟩
theorem tw1716291831162764498:True:=⟨⟩
theorem tw7720553883165295375:True:=⟨⟩
theorem tw10530639225260010924:True:=⟨⟩
theorem tw12324813506237138812:True:=⟨⟩
theorem tw10859050764186959548:True:=⟨⟩
theorem tw849720994248818886:True:=⟨⟩
theorem tw11920670207287511273:True:=⟨⟩
theorem tw5251176665918371770:True:=⟨⟩
theorem tw14108489846386106038:True:=⟨⟩
theorem tw14060777655953757608:True:=⟨⟩
theorem tw14553247954356952317:True:=⟨⟩
theorem tw467925247449057616:True:=⟨⟩
theorem tw5364998517651424184:True:=⟨⟩
theorem tw11099996252341847994:True:=⟨⟩
theorem tw3175645106960873093:True:=⟨⟩
theorem tw16560838253051989250:True:=⟨⟩
theorem tw4947375746347189455:True:=⟨⟩
theorem tw15364632870131377756:True:=⟨⟩
theorem tw13783478421082905127:True:=⟨⟩
theorem tw10844625302087956400:True:=⟨⟩
theorem tw11686561247814258287:True:=⟨⟩
theorem tw16789763498819047287:True:=⟨⟩
theorem tw15035041404832929428:True:=⟨⟩
theorem tw520849502979178568:True:=⟨⟩
theorem tw16784050028786368811:True:=⟨⟩
theorem tw16626091691317968534:True:=⟨⟩
theorem tw7986463984679072302:True:=⟨⟩
theorem tw2353496066025172472:True:=⟨⟩
theorem tw6882029208331448149:True:=⟨⟩
theorem tw1374025771535788358:True:=⟨⟩
theorem tw9202519344371185974:True:=⟨⟩
theorem tw18439575697387257113:True:=⟨⟩
theorem tw1028748382260264391:True:=⟨⟩
theorem tw15043283742601319571:True:=⟨⟩
theorem tw17906841605268111156:True:=⟨⟩
theorem tw11505924258251180513:True:=⟨⟩
theorem tw5540237106339396947:True:=⟨⟩
theorem tw14593415451622264803:True:=⟨⟩
theorem tw7397097949138085734:True:=⟨⟩
theorem tw6329114537396194441:True:=⟨⟩
theorem tw11464518626688549317:True:=⟨⟩
theorem tw10461430891398768101:True:=⟨⟩
theorem tw1090881131066630168:True:=⟨⟩
theorem tw16117521294775845474:True:=⟨⟩
theorem tw5257436511767668403:True:=⟨⟩
theorem tw13623764681807146706:True:=⟨⟩
theorem tw16487477392561178635:True:=⟨⟩
theorem tw3004539142489116522:True:=⟨⟩
theorem tw13296910115282464917:True:=⟨⟩
theorem tw5261139450150290711:True:=⟨⟩
theorem tw15631016983195689338:True:=⟨⟩
theorem tw16158108151378116375:True:=⟨⟩
theorem tw999571103164849663:True:=⟨⟩
theorem tw13742563892834969076:True:=⟨⟩
theorem tw3469145366408977134:True:=⟨⟩
theorem tw14647747387357556780:True:=⟨⟩
theorem tw3560675640617049606:True:=⟨⟩
theorem tw18365168429537415419:True:=⟨⟩
theorem tw8093854563688923752:True:=⟨⟩
theorem tw11867068913633374884:True:=⟨⟩
theorem tw8940700776133432306:True:=⟨⟩
theorem tw11380082223615138236:True:=⟨⟩
theorem tw3483253990638086148:True:=⟨⟩
theorem tw7499574886398974836:True:=⟨⟩
theorem tw13806882526788308569:True:=⟨⟩
theorem tw1306021474243461905:True:=⟨⟩
theorem tw6230399617872170875:True:=⟨⟩
theorem tw2526716681197310000:True:=⟨⟩
theorem tw2675133455322057682:True:=⟨⟩
theorem tw2519468187947104619:True:=⟨⟩
theorem tw405883442341556768:True:=⟨⟩
theorem tw5861840374749855035:True:=⟨⟩
theorem tw16902899131414267147:True:=⟨⟩
theorem tw3027740850762249762:True:=⟨⟩
theorem tw14148651360464466790:True:=⟨⟩
theorem tw10860463996590694139:True:=⟨⟩
theorem tw17894287968483315471:True:=⟨⟩
theorem tw6705264495893150384:True:=⟨⟩
theorem tw517477752767768863:True:=⟨⟩
theorem tw9041519910566114381:True:=⟨⟩
theorem tw2515291439482220680:True:=⟨⟩
theorem tw14636617954875000864:True:=⟨⟩
theorem tw8596251521743346085:True:=⟨⟩
theorem tw1522449638995541903:True:=⟨⟩
theorem tw8307983715670603257:True:=⟨⟩
theorem tw1467607404735998950:True:=⟨⟩
theorem tw17294044476006213866:True:=⟨⟩
theorem tw15063346538075710619:True:=⟨⟩
theorem tw775045622828979575:True:=⟨⟩
theorem tw3168873848389379295:True:=⟨⟩
theorem tw12291567384686849134:True:=⟨⟩
theorem tw5923181830858710329:True:=⟨⟩
theorem tw3235497619197952784:True:=⟨⟩
theorem tw15825128921970345377:True:=⟨⟩
end PySem.W.Fast
open PySem PySem.W PyProof.Rows
set_option maxRecDepth 100000 in
set_option maxHeartbeats 0 in
theorem PySem.Challenge.cw_pastways_k94_whole_owned_texts_holds : PySem.Challenge.rw_pastways_k94_whole_owned_texts.Holds := by
 w_on;o_law;k_head;(case hw=>w_witness2)
 k_fill
 refine Sm.Iz (F:=Lw.prog) (wh:=100000) (n:=60) (f:=37) (x:="_law_script") (l:=PySem.Challenge.rw_pastways_k94_whole_owned_texts) rfl rfl ⟨rfl,by decide,by decide⟩ (λw h Y=>PySem.W.kIn_of Y) Lw.good ?F
 case F=>
  intro w mg fa h KX G hmg
  refine' Lw.all_mk KX G hmg ⟨?a0,L2.bG ?l0 ?c0 ?k0⟩ ⟨?a1,L2.bG ?l1 ?c1 ?k1⟩ ⟨?a2,L2.bG ?l2 ?c2 ?k2⟩ ⟨?a3,L2.bG ?l3 ?c3 ?k3⟩ ⟨?a4,L2.bG ?l4 ?c4 ?k4⟩ ⟨?a5,L2.bG ?l5 ?c5 ?k5⟩ ⟨?a6,L2.bG ?l6 ?c6 ?k6⟩ ⟨?a7,L2.bG ?l7 ?c7 ?k7⟩ ⟨?a8,L2.bG ?l8 ?c8 ?k8⟩ ⟨?a9,L2.bG ?l9 ?c9 ?k9⟩ ⟨?Zl,L2.bG ?Zm ?Zn ?Zo⟩ ⟨?Zp,L2.bG ?Zq ?Zr ?Zs⟩ ⟨?Zt,L2.bG ?Zu ?c12 ?Zv⟩ ⟨?Zw,L2.bG ?Zx ?Zy ?Zz⟩ ⟨?ZA,L2.bG ?ZC ?ZD ?ZE⟩ ⟨?ZF,L2.bG ?ZG ?ZH ?ZI⟩ ⟨?ZJ,L2.bG ?ZK ?ZL ?ZM⟩ ⟨?ZN,L2.bG ?ZO ?ZP ?ZQ⟩ ⟨?ZR,L2.bG ?ZS ?ZT ?ZU⟩ ⟨?ZV,L2.bG ?ZW ?ZX ?ZY⟩ ⟨?ZZ,L2.bG ?Z0 ?Z1 ?Z2⟩ ⟨?Z3,L2.bG ?Z4 ?Z5 ?Z6⟩ ⟨?Z7,L2.bG ?Z8 ?Z9 ?k22⟩ ⟨?a23,L2.bG ?l23 ?c23 ?k23⟩ ⟨?a24,L2.bG ?l24 ?c24 ?k24⟩ ⟨?a25,L2.bG ?l25 ?c25 ?k25⟩ ⟨?a26,L2.bG ?l26 ?c26 ?k26⟩ ⟨?a27,L2.bG ?l27 ?c27 ?k27⟩ ⟨?a28,L2.bG ?l28 ?c28 ?k28⟩ ⟨?a29,L2.bG ?l29 ?c29 ?k29⟩ ⟨?a30,L2.bG ?l30 ?c30 ?k30⟩ ⟨?a31,L2.bG ?l31 ?c31 ?k31⟩ ⟨?a32,L2.bG ?l32 ?c32 ?k32⟩ ⟨?a33,L2.bG ?l33 ?c33 ?k33⟩ ⟨?a34,L2.bG ?l34 ?c34 ?k34⟩ ⟨?a35,L2.bG ?l35 ?c35 ?k35⟩ ⟨?a36,L2.bG ?l36 ?c36 ?k36⟩ ⟨?a37,L2.bG ?l37 ?c37 ?k37⟩ ?z0 ?z1 ?z2 ?z3 ?z4 ?z5 ?z6 ?z7 ?z8 ?z9 ?Vv ?Vw ?q0 ?q1 ?q2 ?q3 ?q4 ?q5 ?q6 ?q7 ?Vx ?Vy ?Vz ?VA ?VB ?VC;all_goals try first|k_is|rfl|decide +kernel | (with_unfolding_all rfl)

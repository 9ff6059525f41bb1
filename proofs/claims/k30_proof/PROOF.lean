import PyProof.Rows.All
import Wide.All
import OpenK.AllK
import Wide.FinOn
import Lean
import PyProof.EqAt
import PyProof.EqKinds
import PyProof.TupleCall
import PyProof.DictUpdate
import PyProof.NeKinds
import PyProof.StrLawsIn
import KE.KRevSl
import PyProof.ZipIter
import PyProof.ListRange
import PyProof.Rows.SortStr
import KE.KRevIter
import KE.KDictSum
import PyProof.EnumMake
import PyProof.EnumFor
import KE.KIntText
import PyProof.CallStr
import PySem.Challenge.RW_pastways_k30_places
set_option Elab.async false
set_option linter.all false
set_option maxRecDepth 100000
def eZ:=@PySem.wpAny_bind
def gV:=@Option.map_eq_some_iff
def iy:=@List.size_toArray
def mD:=@if_pos
def uZ:=@PySem.wpAny_pure
def vz:=@PySem.Heap.get?_push_of_some
def xT:=@Nat.lt_of_lt_of_le
def xZ:=@List.replicate_succ
def Ad:=@Nat.le_refl
def GY:=@Bool.and_eq_true
def PV:=@Option.some.inj
def PX:=@List.length_append
def UJ:=@List.getElem?_set_ne
def UK:=@List.getElem?_append_left
def V3:=@PySem.Heap.lt_size
def V4:=@Option.bind_eq_some_iff
def WR:=@List.getElem?_eq_getElem
def WS:=@List.getElem?_set_self
def Yv:=@if_neg
def aaa:=@List.map_cons
def aab:=@congrArg
def aac:=@PySem.Heap.get?_push_size
def aad:=@decide_eq_false
def aae:=@List.append_nil
def aaf:=@Nat.le_trans
def aag:=@List.length_map
def aah:=@Nat.ne_of_lt
def aai:=@List.length_cons
def aaj:=@List.getElem?_map
def aak:=@List.cons_append
def aal:=@List.mem_of_getElem?
def aam:=@List.mem_cons_of_mem
def aan:=@if_true
def aao:=@PySem.W.mg_none_of
def aap:=@Bool.false_eq_true
def aaq:=@List.map_append
def aar:=@List.append_assoc
def aas:=@PySem.wpAny_mono
def aat:=@List.mem_append_right
def aau:=@Bool.false_ne_true
def aav:=@List.length_singleton
def aaw:=@List.getElem?_eq_none
def aax:=@PyProof.Rows.callWith_type1
def aay:=@List.reverse_cons
def aaz:=@PySem.W.mg_of
def aaA:=@PySem.wpAny_newObj_type
def aaB:=@PySem.builtinLookup_eq_fast
def aaC:=@PySem.AutoSeq1.wpAny_loadPart'
def aaD:=@List.mem_cons_self
def aaE:=@decide_eq_true
def aaF:=@List.take_of_length_le
def aaG:=@of_decide_eq_true
def aaH:=@List.filterMap_cons
def aaI:=@PySem.wpAny_ite_split
def aaJ:=@List.foldl_cons
def aaK:=@Nat.lt_irrefl
def aaL:=@Bool.or_eq_true
def aaM:=@PySem.wpAny_holding
def aaN:=@List.getElem?_append_right
def aaO:=@PySem.wpAny_Call_Name_kw
def aaP:=@PySem.Heap.get?_update_self
def aaQ:=@List.drop_eq_getElem_cons
def aaR:=@PyProof.Rows.slot_tuple_getitem
def aaS:=@PySem.sizeLine_eq
def aaT:=@PySem.wpAny_specialOf
def aaU:=@PySem.typeLookup_type
def aaV:=@List.nil_append
def aaW:=@List.flatten_cons
def aaX:=@Bool.not_eq_true'
def aaY:=@List.mem_cons
def aaZ:=@PySem.F.plainAttrs_list
def aa0:=@List.take_succ_cons
def aa1:=@Ne.symm
def aa2:=@if_false
def aa3:=@List.lookup_cons
def aa4:=@List.length_take
def aa5:=@PySem.wpAny_of_eq
def aa6:=@PySem.wpAny_field
def aa7:=@Nat.zero_le
def aa8:=@PySem.Heap.get?_update_other
def aa9:=@of_decide_eq_false
def aba:=@PySem.wpAny_passesOwn
def abb:=@List.find?_cons
def abc:=@PySem.Calls.Name_function_global
def abd:=@decide_eq_true_eq
def abe:=@PyProof.Rows.len_str
def abf:=@PySem.isSubtype_type
def abg:=@PySem.wpAny_call_entry
def abh:=@PySem.mem_of_lookup
def abi:=@PySem.wpAny_callSpecial?_slot
def abj:=@PySem.call_meets
def abk:=@PySem.Calls.spliced_cons
def abl:=@Int.toNat_natCast
def abm:=@PySem.Calls.spliced_nil
def abn:=@List.dropLast_eq_take
def abo:=@PySem.wpAny_execs_cons
def abp:=@List.mem_nil_iff
def abq:=@List.append_inj'
def abr:=@PySem.Around.under_plainId
def abt:=@PySem.wpAny_attempt
def abu:=@PySem.plainId_quiet
def abv:=@Option.bind_eq_bind
def abw:=@Array.length_toList
def abx:=@PySem.wpAny_execs_nil
def aby:=@PySem.codeAny_builtin
def abz:=@PySem.wpAny_typeOf
def abA:=@List.map_nil
def abB:=@PySem.Obj.data_mapFields
def abC:=@Nat.add_sub_cancel
def abD:=@List.mem_singleton
def abE:=@Int.emod_lt_of_pos
def abF:=@PySem.F.args_tuple_mul_2
def abG:=@PySem.F.args_tuple_add_2
def abH:=@List.drop_zero
def abI:=@PySem.F.entry_tuple_mul
def abJ:=@PySem.F.entry_tuple_add
def abK:=@PySem.Calls.loadGlobal_global
def abL:=@PySem.wpAny_truthy_bool
def abM:=@List.foldl_append
def abN:=@PySem.wpAny_Call_method_late
def abO:=@PySem.W.cellsFrom_some
def abP:=@PySem.F.slot_tuple_mul
def abQ:=@PySem.F.slot_tuple_add
def abR:=@Nat.add_assoc
def abS:=@PySem.wpAny_isInstance
def abT:=@List.filter_cons
def abU:=@List.eq_nil_or_concat
def abV:=@List.concat_eq_append
def abW:=@PySem.codeAny_mono
def abX:=@List.map_map
def abY:=@Nat.min_eq_left
def abZ:=@List.range_succ
def ab0:=@List.of_mem_zip
def ab1:=@List.nodup_cons
def ab2:=@Int.emod_nonneg
def ab3:=@Bool.eq_iff_iff
def ab4:=@List.replicate_succ'
def ab5:=@List.getElem?_range
def ab6:=@List.drop_succ_cons
def ab7:=@PySem.Heap.SameBut.update
def ab8:=@PySem.F.plain_extend_loop
def ab9:=@List.filter_append
def acd:=@PySem.wpAny_newFunctionEnv_cells
def ace:=@PySem.wpAny_Return_some
def acf:=@PySem.wpAny_rule
def acg:=@PySem.wpAny_call
def ach:=@PySem.typeIs_int
def aci:=@PySem.wpAny_binaryOp_repeat_ref
def acj:=@List.getLast?_eq_getElem?
def ack:=@List.getElem?_eq_none_iff
def acm:=@Array.getElem?_eq_getElem
def acn:=@PySem.W.looks_findIn
def aco:=@Nat.add_comm
def acp:=@PySem.noFill_tuple_add
def acq:=@Nat.lt_succ_self
def acr:=@List.length_drop
def acs:=@PySem.AutoSeq1.idx_int
def acu:=@List.eq_of_mem_replicate
def acv:=@List.getElem?_replicate
def acw:=@PySem.wpAny_updateSeq
def acy:=@Option.map_some
def acz:=@List.length_nil
def acA:=@List.range_succ_eq_map
def acB:=@List.drop_of_length_le
def acC:=@List.drop_eq_nil_of_le
def acD:=@PySem.wpAny_setField
def acE:=@PySem.callType_codes
def acF:=@PySem.F.slot_int_rmul
def acG:=@or_false
def acH:=@PySem.wpAny_Name
def acI:=@List.mem_append_left
def acJ:=@List.getElem_toArray
def acK:=@List.getElem?_of_mem
def acL:=@List.all_cons
def acM:=@Nat.sub_lt_sub_left
def acN:=@List.length_reverse
def acO:=@Nat.zero_add
def acP:=@Nat.ne_of_gt
def acQ:=@Nat.le_of_lt
def acR:=@Int.zero_add
def acS:=@PySem.W.codeRec_of
def acT:=@PySem.W.callWith_K
def acU:=@PyProof.V.same_str
def acV:=@List.getElem?_drop
def acW:=@Nat.le_succ
namespace L2
open PySem PySem.Spec PyProof.Rows
abbrev Key:=Sum Int Str
noncomputable def oQ:Key->Value->Bool
 |.inl k,v=>Value.isInt k v
 |.inr x,v=>Value.isStrOf x v
noncomputable def U4(w:World):Key->Int
 |.inl k=>hashInt k
 |.inr x=>hashStr w x
def dF:∀{k:Key}{v:Value},oQ k v=true->(∃i t,k=Sum.inl i/\v=Value.int i t)\/(∃x t,k=Sum.inr x/\v=Value.str x t)
 |.inl i,v,h=>by
  obtain⟨t,e⟩:=Value.isInt_shape (k:=i) (v:=v) h;exact .inl ⟨i,t,rfl,e⟩
 |.inr x,v,h=>by
  obtain⟨t,e⟩:=Value.isStrOf_shape (x:=x) (v:=v) h;exact .inr ⟨x,t,rfl,e⟩
def BZ(i:Int)(t:Tok):oQ (.inl i) (.int i t)=true:=by simp[oQ,Value.isInt]
def B3(x:Str)(t:Tok):oQ (.inr x) (.str x t)=true:=by simp[oQ,Value.isStrOf]
def LY(a b:Int):decide ((Sum.inl a:Key)=Sum.inl b)=(a==b):=by
 by_cases e:a=b
 .subst e;simp
 .have h:¬ (Sum.inl a:Key)=Sum.inl b:=λq=>e (Sum.inl.inj q);rw[aad h];exact(beq_eq_false_iff_ne.mpr e).symm
def LZ(a b:Str):decide ((Sum.inr a:Key)=Sum.inr b)=decide (a=b):=by
 by_cases e:a=b
 .subst e;simp
 .have h:¬ (Sum.inr a:Key)=Sum.inr b:=λq=>e (Sum.inr.inj q);rw[aad h,aad e]
def L0(a:Int)(b:Str):decide ((Sum.inl a:Key)=Sum.inr b)=false:=aad (λq=>nomatch q)
def L1(a:Str)(b:Int):decide ((Sum.inr a:Key)=Sum.inl b)=false:=aad (λq=>nomatch q)
noncomputable def dg(prog:Program)(w:World):PySem.KeyKind prog w Key where
 is:=oQ
 hash:=U4 w
 inj:=λv a b ha hb=>by
  rcases dF ha with ⟨i,t,rfl,rfl⟩|⟨x,t,rfl,rfl⟩
  .rcases dF hb with ⟨j,u,rfl,e⟩|⟨y,u,rfl,e⟩
   .injection e with e1 _;rw[e1]
   .exact nomatch e
  .rcases dF hb with ⟨j,u,rfl,e⟩|⟨y,u,rfl,e⟩
   .exact nomatch e
   .injection e with e1 _;rw[e1]
 byValue:=λk v h=>by
  rcases dF h with ⟨i,t,rfl,rfl⟩|⟨x,t,rfl,rfl⟩<;>rfl
 pyHash:=λhv h=>by
  rcases dF hv with ⟨i,t,rfl,rfl⟩|⟨x,t,rfl,rfl⟩
  .exact wpAny_pyHash_int h
  .exact wpAny_pyHash_str h
 eqBool:=λhu hv h=>by
  rcases dF hu with ⟨i,t,rfl,rfl⟩|⟨x,t,rfl,rfl⟩
  .rcases dF hv with ⟨j,u,rfl,rfl⟩|⟨y,u,rfl,rfl⟩
   .rw[LY]at h;exact wpAny_eqBool_int h
   .rw[L0]at h;exact SeqAt.EqAt.int_str i t y u _ _ _ _ h
  .rcases dF hv with ⟨j,u,rfl,rfl⟩|⟨y,u,rfl,rfl⟩
   .rw[L1]at h;exact SeqAt.EqAt.str_int x t j u _ _ _ _ h
   .rw[LZ]at h;exact wpAny_eqBool_str h
 «strs»:=λk x t v h=>by
  rcases dF h with ⟨i,u,rfl,e⟩|⟨y,u,rfl,e⟩
  .exact nomatch e
  .injection e with e1 _
   subst e1;cases v<;>rfl
def yp(prog:Program)(w:World)(i:Int)(t:Tok):(dg prog w).is (.inl i) (.int i t)=true:=BZ i t
def yq(prog:Program)(w:World)(x:Str)(t:Tok):(dg prog w).is (.inr x) (.str x t)=true:=B3 x t
inductive V where
 |aU|bl (b:Bool)|int (i:Int)|str (x:Str)|nA (b:Array UInt8)|L3 (b:UInt64)|ref (a:Addr)|ty (n:String)
 deriving DecidableEq
noncomputable def RelV:V->Value->Prop
 |.aU,u=>u=Value.none
 |.bl b,u=>u=Value.bool b
 |.int i,u=>∃t,u=Value.int i t
 |.str x,u=>∃t,u=Value.str x t
 |.nA b,u=>∃t,u=Value.bytes b t
 |.L3 b,u=>∃t,u=Value.float b t
 |.ref a,u=>u=Value.ref a
 |.ty n,u=>u=Value.type n
abbrev Vals:List V->List Value->Prop:=Paired RelV
theorem Vals.length{xs:List V}{us:List Value}(r:Vals xs us):xs.length=us.length:=Paired.length r
theorem Vals.get:∀{xs:List V}{us:List Value}{i:Nat}{x:V},Vals xs us->xs[i]?=some x->∃u,us[i]?=some u/\RelV x u
 |_,_,_,_,.nil,e=>by simp at e
 |_,_,0,_,.cons r _,e=>by simp at e;subst e;exact⟨_,rfl,r⟩
 |_,_,i+1,x,.cons _ t,e=>by
  obtain⟨u,h1,h2⟩:=Vals.get (i:=i) (x:=x) t (by simpa using e);exact⟨u,by simpa using h1,h2⟩
theorem Vals.set{x:V}{u:Value}(r:RelV x u):∀{xs:List V}{us:List Value}(i:Nat),Vals xs us->Vals (xs.set i x) (us.set i u)
 |_,_,_,.nil=>.nil
 |_,_,0,.cons _ t=>.cons r t
 |_,_,i+1,.cons q t=>.cons q (Vals.set r i t)
theorem Vals.append:∀{xs ys:List V}{us ws:List Value},Vals xs us->Vals ys ws->Vals (xs++ys) (us++ws)
 |_,_,_,_,.nil,s=>s
 |_,_,_,_,.cons r t,s=>.cons r (Vals.append t s)
theorem Vals.take:∀{xs:List V}{us:List Value}(n:Nat),Vals xs us->Vals (xs.take n) (us.take n)
 |_,_,0,_=>.nil
 |_,_,_+1,.nil=>.nil
 |_,_,n+1,.cons r t=>.cons r (Vals.take n t)
theorem Vals.drop:∀{xs:List V}{us:List Value}(n:Nat),Vals xs us->Vals (xs.drop n) (us.drop n)
 |_,_,0,r=>r
 |_,_,_+1,.nil=>.nil
 |_,_,n+1,.cons _ t=>Vals.drop n t
noncomputable def nB:Option V->Option Value->Prop
 |some v,some u=>RelV v u
 |none,none=>True
 |_,_=>False
noncomputable def KV{κ:Type}:List (κ×V)->List (κ×Value)->Prop:=Paired λ(p:κ×V) (q:κ×Value)=>p.1=q.1/\RelV p.2 q.2
noncomputable def kV:Key->V
 |.inl i=>.int i
 |.inr x=>.str x
inductive HO where
 |lst (xs:List V)
 |tup (xs:List V)
 |dK (kvs:List (Key×V))|dT (kvs:List (List Key×V))
 |set (S:Int->Bool) (n:Nat)
 |ins (C dx:Addr) (fs:List (Str×V))
 |own (x:Addr)
 |xd (fs:List (Str×V))
 |met (f x:Addr)
 |iU (lo hi:Int)
 |bY (o:Obj) (u:HO)
 |um (ps:Array Value)
 |ext (φ:Heap->Prop)
abbrev Hp:=Addr->Option HO
noncomputable def upd(H:Hp)(a:Addr)(o:HO):Hp:=λb=>if b=a then some o else H b
def cz{H:Hp}{a:Addr}{o:HO}:upd H a o a=some o:=by unfold upd;rw[mD rfl]
def bf{H:Hp}{a b:Addr}{o:HO}(h:b≠a):upd H a o b=H b:=by unfold upd;rw[Yv h]
def Jk{H:Hp}{a:Addr}{o u:HO}:upd (upd H a o) a u=upd H a u:=by
 funext b;unfold upd;split<;>rfl
def oR{H:Hp}{a b:Addr}{o u:HO}(h:H a=some o)(h':H b=some u)(d:o≠u):a≠b:=by
 intro e;subst e;rw[h]at h';exact d (PV h')
def bG{H:Hp}{a b:Addr}{o:HO}(h:H a=some o)(h':H b=none):a≠b:=by
 intro e;subst e;rw[h]at h';cases h'
section
variable(P:Program)(w:World)
noncomputable def cR(H:Hp)(h:Heap)(a:Addr):HO->Prop
 |.lst xs=>xs.length<=sizeLine/\∃(its:List Value) (n:Nat),Vals xs its/\h.get? a=some { cls:=.type "list",data:=.seq its.toArray n }
 |.tup xs=>xs.length<=sizeLine/\∃its:List Value,Vals xs its/\IsTup h a its.toArray
 |.dK kvs=>kvs.length<=sizeLine/\(a==sysModules)=false/\∃vs,KV kvs vs/\h.DictOf (dg P w) a vs
 |.dT kvs=>kvs.length<=sizeLine/\(a==sysModules)=false/\∃xs:List (List Key×Addr×Value),
   Paired (λ(p:List Key×V) (q:List Key×Addr×Value)=>p.1=q.1/\H q.2.1=some (.tup (p.1.map kV))/\RelV p.2 q.2.2) kvs xs/\
   ∃o es ep,h.get? a=some o/\o.ExactDict/\o.data=.dict es ep/\es.toList=xs.map (entryOfKey (tupleKind (dg P w)))/\(xs.map (·.1)).Nodup
 |.set S n=>h.SetOf (intKind P w) a S n
 |.ins C dx fs=>H dx=some (.own a)/\fs.length<=1000/\dx≠a/\h.get? a=some (PySem.W.instObj C dx)/\
   ∃mA,h.Ns1 dx mA/\(∀f,nB (fs.lookup f) (mA f))/\PySem.Within mA (fs.map (·.1))
 |.own _=>∃o,h.get? a=some o
 |.xd fs=>∃mA,h.Ns1 a mA/\∀f,nB (fs.lookup f) (mA f)
 |.iU lo hi=>∃t u v,h.get? a=some { cls:=.type "range",data:=.fields #[.int lo t,.int hi u,.int 1 v]}
 |.bY o u=>h.get? a=some o/\cR H h a u
 |.um ps=>h.get? a=some { cls:=.none,data:=.fields ps }
 |.met f x=>h.get? a=some (PySem.W.methodObj (.ref f) (.ref x))
 |.ext φ=>φ h/\(∃o,h.get? a=some o)/\∀h1 h2:Heap,φ h1->(∀o,h1.get? a=some o->h2.get? a=some o)->φ h2
noncomputable def ee(H:Hp)(h:Heap):Prop:=∀a o,H a=some o->cR P w H h a o
end
section
variable{P:Program}{w:World}{H H':Hp}{h h':Heap}{a:Addr}{o:HO}
theorem cR.lt(x:cR P w H h a o):a<h.objs.size:=by
 cases o with
 |lst xs=>obtain⟨_,_,_,_,e⟩:=x;exact V3 e
 |tup xs=>obtain⟨_,_,_,p⟩:=x;exact p.lt
 |dK kvs=>obtain⟨_,_,_,_,o,_,_,e,_⟩:=x;exact V3 e
 |dT kvs=>obtain⟨_,_,_,_,o,_,_,e,_⟩:=x;exact V3 e
 |set S n=>obtain⟨o,_,_,_,e,_⟩:=x;exact V3 e
 |ins C dx fs=>obtain⟨_,_,_,e,_⟩:=x;exact V3 e
 |own y=>obtain⟨_,e⟩:=x;exact V3 e
 |xd fs=>obtain⟨_,⟨_,_,_,e,_⟩,_⟩:=x;exact V3 e
 |iU lo hi=>obtain⟨_,_,_,e⟩:=x;exact V3 e
 |bY ob u=>obtain⟨e,_⟩:=x;exact V3 e
 |um ps=>exact V3 (show h.get? a=some _ from x)
 |met f y=>exact V3 (show h.get? a=some _ from x)
 |ext φ=>obtain⟨_,⟨_,e⟩,_⟩:=x;exact V3 e
theorem Paired.L4{α β:Type}{F G:α->β->Prop}:∀{l₁:List α}{l₂:List β},Paired F l₁ l₂->(∀a b,F a b->G a b)->Paired G l₁ l₂
 |_,_,.nil,_=>.nil
 |_,_,.cons r t,f=>.cons (f _ _ r) (Paired.L4 t f)
def cR.stay(x:cR P w H h a o)(k:∀b u,(b=a\/H b=some (.own a))->h.get? b=some u->h'.get? b=some u)
  (ho:∀b,H b=some (.own a)->H' b=some (.own a)) (ht:∀b xs,H b=some (.tup xs)->H' b=some (.tup xs)):cR P w H' h' a o:=by
 induction o with
 |lst xs=>obtain⟨z,its,n,r,e⟩:=x;exact⟨z,its,n,r,k _ _ (.inl rfl) e⟩
 |tup xs=>obtain⟨z,its,r,ob,e,c⟩:=x;exact⟨z,its,r,ob,k _ _ (.inl rfl) e,c⟩
 |dK kvs=>obtain⟨z,y,vs,r,ob,es,ep,e,c⟩:=x;exact⟨z,y,vs,r,ob,es,ep,k _ _ (.inl rfl) e,c⟩
 |dT kvs=>
  obtain⟨z,y,xs,r,ob,es,ep,e,c⟩:=x;exact⟨z,y,xs,Paired.L4 r λp q z=>⟨z.1,ht _ _ z.2.1,z.2.2⟩,ob,es,ep,k _ _ (.inl rfl) e,c⟩
 |set S n=>obtain⟨ob,es,ep,t,e,c⟩:=x;exact⟨ob,es,ep,t,k _ _ (.inl rfl) e,c⟩
 |ins C dx fs=>
  obtain⟨d,z,ne,e,mA,⟨od,es,ep,e2,c⟩,r⟩:=x;exact⟨ho _ d,z,ne,k _ _ (.inl rfl) e,mA,⟨od,es,ep,k _ _ (.inr d) e2,c⟩,r⟩
 |own y=>obtain⟨ob,e⟩:=x;exact⟨ob,k _ _ (.inl rfl) e⟩
 |xd fs=>obtain⟨mA,⟨od,es,ep,e,c⟩,r⟩:=x;exact⟨mA,⟨od,es,ep,k _ _ (.inl rfl) e,c⟩,r⟩
 |iU lo hi=>obtain⟨t,u,v,e⟩:=x;exact⟨t,u,v,k _ _ (.inl rfl) e⟩
 |bY ob u ih=>obtain⟨e,q⟩:=x;exact⟨k _ _ (.inl rfl) e,ih q⟩
 |um ps=>
  have e:h.get? a=some { cls:=.none,data:=.fields ps }:=x;show h'.get? a=some { cls:=.none,data:=.fields ps };exact k a _ (.inl rfl) e
 |met f y=>
  have e:h.get? a=some (PySem.W.methodObj (.ref f) (.ref y)):=x;show h'.get? a=some (PySem.W.methodObj (.ref f) (.ref y));exact k a _ (.inl rfl) e
 |ext φ=>obtain⟨p,⟨o,e⟩,st⟩:=x;exact⟨st _ _ p λo q=>k _ _ (.inl rfl) q,⟨o,k _ _ (.inl rfl) e⟩,st⟩
theorem ee.lt(x:ee P w H h)(e:H a=some o):a<h.objs.size:=(x a o e).lt
def ee.fresh(x:ee P w H h)(e:h.objs.size<=a):H a=none:=by
 cases q:H a with
 |none=>rfl
 |some u=>exact absurd (xT (x.lt q) e) (aaK _)
def ee.kept(x:ee P w H h)(k:∀b u,h.get? b=some u->h'.get? b=some u):ee P w H h':=λa o e=>
 (x a o e).stay (λb u _ q=>k b u q) (λ_ q=>q) λ_ _ q=>q
def ee.laid(x:ee P w H h)(k:∀b u,h.get? b=some u->h'.get? b=some u)(hp:h.objs.size<=a)(new:cR P w (upd H a o) h' a o):ee P w (upd H a o) h':=λb u e=>by
 have hn:=x.fresh hp;by_cases hb:b=a
 .subst hb;rw[cz]at e;cases e;exact new
 .rw[bf hb]at e;exact(x b u e).stay (λc v _ q=>k c v q) (λc q=>by rw[bf (bG q hn)];exact q) λc xs q=>by rw[bf (bG q hn)];exact q
end
noncomputable def Rd(H:Hp)(a:Addr)(u:HO):Prop:=H a=some u\/∃o,H a=some (.bY o u)
def Rd.ok{P:Program}{w:World}{H:Hp}{h:Heap}{a:Addr}{u:HO}(r:Rd H a u)(x:ee P w H h):cR P w H h a u:=by
 rcases r with r|⟨o,r⟩
 .exact x a u r
 .obtain⟨_,q⟩:=x a _ r;exact q
noncomputable def B4:Option HO->Prop
 |some (.lst _)=>True
 |some (.dK _)=>True
 |some (.dT _)=>True
 |some (.set _ _)=>True
 |some (.ins _ _ _)=>True
 |some (.ext _)=>True
 |_=>False
section
variable{P:Program}{w:World}{H:Hp}{h h':Heap}{x e:Addr}{o':HO}
def ee.write(ok:ee P w H h)(mu:B4 (H x))(he:e=x\/H e=some (.own x))(k:∀b u,b≠e->h.get? b=some u->h'.get? b=some u)(yN:∃u,h'.get? e=some u)
  (new:cR P w (upd H x o') h' x o'):ee P w (upd H x o') h':=λb u q=>by
 have L5:∀c y,H c=some (.own y)->c≠x:=λc y r z=>by subst z;rw[r]at mu;exact mu
 have U5:∀c xs,H c=some (.tup xs)->c≠x:=λc xs r z=>by subst z;rw[r]at mu;exact mu
 by_cases hb:b=x
 .subst hb;rw[cz]at q;cases q;exact new
 .rw[bf hb]at q;by_cases vF:b=e
  .have q':H b=some (.own x):=by
    rcases he with z|z
    .exact absurd (vF.trans z) hb
    .rw[vF];exact z
   rw[q]at q';cases q';obtain⟨v,hv⟩:=yN;exact⟨v,by rw[vF];exact hv⟩
  .refine(ok b u q).stay (λc v hc r=>k c v ?_ r) (λc r=>by rw[bf (L5 c b r)];exact r) λc xs r=>by rw[bf (U5 c xs r)];exact r
   rcases hc with rfl|hc
   .exact vF
   .rintro rfl;rcases he with z|z
    .exact L5 c b hc z
    .rw[hc]at z;cases z;exact hb rfl
end
structure Un(fs ex:List Addr)(H H':Hp)(h h':Heap):Prop where
 keep:∀b o,h.get? b=some o->H b=none->b∉fs->b∉ex->h'.get? b=some o
 slot:∀b o,h.get? b=some o->H b=none->b∈fs->b∉ex->∃sl,h'.get? b=some { o with slots:=sl }
 free:∀b o,h.get? b=some o->H b=none->b∉ex->H' b=none
 there:∀b o,h.get? b=some o->b∉ex->∃o',h'.get? b=some o'
 tups:∀b xs,H b=some (.tup xs)->H' b=some (.tup xs)
 kh:∀b o u,H b=some (.bY o u)->H' b=some (.bY o u)
 lB:∀b ps,H b=some (.um ps)->∃more,H' b=some (.um (ps++more))
section
variable{fs ex:List Addr}{H H1:Hp}{h h1 h':Heap}{a x e:Addr}{o:HO}
def Un.any(u:Un fs ex H H1 h h1){b:Addr}{ob:Obj}(q:h.get? b=some ob)(n:H b=none)(hx:b∉ex):∃sl,h1.get? b=some { ob with slots:=sl }:=by
 by_cases hb:b∈fs
 .exact u.slot b ob q n hb hx
 .exact⟨ob.slots,u.keep b ob q n hb hx⟩
def Un.kept(k:∀b u,h.get? b=some u->h'.get? b=some u):Un fs ex H H h h':=
 ⟨λb ob q _ _ _=>k b ob q,λb ob q _ _ _=>⟨ob.slots,k b ob q⟩,λ_ _ _ n _=>n,λb ob q _=>⟨ob,k b ob q⟩,λ_ _ q=>q,λ_ _ _ q=>q,λ_ ps q=>⟨#[],by rw[q];simp⟩⟩
def Un.refl:Un fs ex H H h h:=Un.kept λ_ _ q=>q
def Un.laid(k:∀b u,h.get? b=some u->h'.get? b=some u)(hp:h.objs.size<=a)(hn:H a=none):Un fs ex H (upd H a o) h h' where
 keep:=λb u q _ _ _=>k b u q
 slot:=λb u q _ _ _=>⟨u.slots,k b u q⟩
 free:=λb u q n _=>by rw[bf (aah (xT (V3 q) hp))];exact n
 there:=λb u q _=>⟨u,k b u q⟩
 tups:=λb xs q=>by rw[bf (bG q hn)];exact q
 kh:=λb u xs q=>by rw[bf (bG q hn)];exact q
 lB:=λb ps q=>⟨#[],by rw[bf (bG q hn),q];simp⟩
def Un.write(mu:B4 (H x))(he:e=x\/H e=some (.own x))(k:∀b u,b≠e->h.get? b=some u->h'.get? b=some u)(yN:∃u,h'.get? e=some u):Un fs ex H (upd H x o) h h':=by
 have hx:∀b,H b=none->b≠x:=λb n z=>by subst z;rw[n]at mu;exact mu
 have hb:∀b,H b=none->b≠e:=λb n z=>by
  subst z;rcases he with r|r
  .exact hx b n r
  .rw[n]at r;cases r
 have hm:∀b u,H b=some u->¬ B4 (some u)->b≠x:=λb u q nm z=>by subst z;rw[q]at mu;exact nm mu
 refine⟨λb u q n _ _=>k b u (hb b n) q,λb u q n _ _=>⟨u.slots,k b u (hb b n) q⟩,λb u q n _=>by rw[bf (hx b n)];exact n,λb u q _=>?_,
  λb xs q=>by rw[bf (hm b _ q λz=>z)];exact q,λb u xs q=>by rw[bf (hm b _ q λz=>z)];exact q,λb ps q=>⟨#[],by rw[bf (hm b _ q λz=>z),q];simp⟩⟩
 by_cases vF:b=e
 .subst vF;exact yN
 .exact⟨u,k b u vF q⟩
end
noncomputable def G4(h:Heap)(H:Hp):List Addr:=(List.range h.objs.size).filter λa=>(H a).isSome
noncomputable def mK(h:Heap)(H:Hp):Heap:=PySem.W.hideAll h (G4 h H)
def B5(h:Heap)(H:Hp):(mK h H).objs.size=h.objs.size:=PySem.W.hideAll_size _ _
def EL{h:Heap}{H:Hp}{b:Addr}{o:Obj}(e:h.get? b=some o)(n:H b=none):(mK h H).get? b=some o:=
 PySem.W.hideAll_get _ e λhm=>by
  have q:(H b).isSome=true:=(List.mem_filter.mp hm).2;rw[n]at q;simp at q
def Jl{h:Heap}{H:Hp}{b:Addr}{o:Obj}(e:(mK h H).get? b=some o):h.get? b=some o/\H b=none:=by
 have e':h.get? b=some o:=PySem.W.of_hideAll (G4 h H) e;refine⟨e',?_⟩;cases q:H b with
 |none=>rfl
 |some x=>
  have hm:b∈G4 h H:=List.mem_filter.mpr ⟨List.mem_range.mpr (V3 e'),by simp[q]⟩;have z:(mK h H).get? b=none:=PySem.W.hideAll_none (G4 h H) hm;rw[z]at e;cases e
noncomputable def Jm(g h:Heap)(L:Addr):List (Addr×Obj):=(List.range h.objs.size).filterMap λa=>if a=L\/(g.get? a).isSome=true then none else (h.get? a).map λo=>(a,o)
noncomputable def rest(g h:Heap)(L d:Addr):List (Addr×Obj):=(Jm g h L).filter λp=>decide (p.1≠d)
structure Mod(K:PySem.W.Frag)(mg:Str->Option Value)(base:Heap):Prop where
 cW:K.In base
 glob:base.Ns mainGlobals mg
 blt:∃mb,base.Ns builtinsNs mb/\∀x:Str,x≠"__name__" ->mb x=bootBuiltins x
 nolimit:base.NoLimit
structure Cx where
 prog:Program
 w:World
 K:PySem.W.Frag
 mg:Str->Option Value
 base:Heap
 A:Around
 N:List Str
 s₀:Shared
 H₀:Hp
 env:Env
 outer:List Env
 stack:List Env
 ex:List Addr
 fn:Str->Bool
 calm:Bool
 pn:List (Addr×Obj)
 xe:Value->Shared->Prop
noncomputable def frs(l:List Env):List Addr:=l.filterMap (·.frame)
noncomputable abbrev Cx.fs(X:Cx):List Addr:=frs X.outer
noncomputable def uo(sc:Scope)(x:Str):Prop:=sc.names.lookup x=some .local\/sc.names.lookup x=some .cell\/sc.names.lookup x=some .free
noncomputable def Loc(sc:Scope)(x:Str):Prop:=sc.names.lookup x=some .local\/sc.names.lookup x=some .cell
noncomputable def Look(env:Env)(h:Heap)(m:Str->Option Value)(x:Str)(u:Value):Prop:=
 (env.kindOf x=some .local/\m x=some u)\/((env.kindOf x=some .cell\/env.kindOf x=some .free)/\∃c,env.cells.lookup x=some c/\h.IsCell c (some u))
structure Cx.Ok(X:Cx):Prop where
 mod:Mod X.K X.mg X.base
 kind:X.env.scope.kind=.function
 glob:X.env.globals=mainGlobals
 blt:X.env.builtins=builtinsNs
 above:X.s₀.heap.objs.size<=X.env.locals
 inj:∀x y c,X.env.cells.lookup x=some c->X.env.cells.lookup y=some c->x=y
 has:∀x,(X.env.kindOf x=some .cell\/X.env.kindOf x=some .free)->∃c,X.env.cells.lookup x=some c
 vG:∀x c,X.fn x=true->X.env.cells.lookup x=some c->X.s₀.heap.objs.size<=c
 hd:X.calm=true->X.A.handled=none
 frames:X.A.frames=some X.stack
 stk:X.stack=X.outer\/(X.stack=X.env :: X.outer/\X.env.frame=some X.env.locals)
 B6:∀b∈X.ex,b≠X.env.locals/\∀x c,X.env.cells.lookup x=some c->c≠b
 bs:∀b o,X.base.get? b=some o->X.s₀.heap.get? b=some o/\X.H₀ b=none
 nC:X.base.objs.size<=X.s₀.heap.objs.size
 qd:∀b o,X.base.get? b=some o->b∉X.ex
 qe:∀b∈X.ex,b∉X.fs
 iz:X.s₀.heap.FunFrames X.base X.outer
 pR:∀b∈X.fs,X.H₀ b=none
structure Inv(X:Cx)(pins:List (Addr×Obj))(σ:List (Option V))(H:Hp)(s:Shared):Prop where
 ok:X.Ok
 os:s.os=X.s₀.os
 bare:AllBare s.gens
 base:Un X.fs X.ex X.H₀ H X.s₀.heap s.heap
 loc:∃m,s.heap.Ns X.env.locals m/\∀(i:Nat) (x:Str) (v:V),X.N[i]?=some x->σ[i]?=some (some v)->uo X.env.scope x->∃u,RelV v u/\Look X.env s.heap m x u
 cell:∀x c,X.env.cells.lookup x=some c->∃v,s.heap.IsCell c v
 free:H X.env.locals=none
 ir:∀x c,X.env.cells.lookup x=some c->H c=none
 pin:∀p∈X.pn++pins,s.heap.get? p.1=some p.2/\H p.1=none/\p.1≠X.env.locals/\p.1∉X.fs/\∀v,p.2.data≠.cell v
 hok:ee X.prog X.w H s.heap
 len:σ.length=X.N.length
section
variable{X:Cx}{pins:List (Addr×Obj)}{σ:List (Option V)}{H H':Hp}{s:Shared}{h':Heap}
def Cx.Ok.U6(ok:X.Ok){b:Addr}{o:Obj}(e:X.base.get? b=some o):b∉X.fs:=λhb=>by
 have:=(ok.iz.mem hb).1;rw[e]at this;cases this
theorem Inv.bs(I:Inv X pins σ H s):∀b o,X.base.get? b=some o->s.heap.get? b=some o/\H b=none:=λb o e=>
 ⟨I.base.keep b o (I.ok.bs b o e).1 (I.ok.bs b o e).2 (I.ok.U6 e) (I.ok.qd b o e),I.base.free b o (I.ok.bs b o e).1 (I.ok.bs b o e).2 (I.ok.qd b o e)⟩
def Inv.bk(I:Inv X pins σ H s):∀b o,X.base.get? b=some o->s.heap.get? b=some o:=λb o e=>(I.bs b o e).1
theorem Inv.mod(I:Inv X pins σ H s):Mod X.K X.mg X.base:=I.ok.mod
def Inv.jE(I:Inv X pins σ H s):X.K.In s.heap:=I.ok.mod.cW.keeps I.bk
theorem Inv.lt(I:Inv X pins σ H s):X.env.locals<s.heap.objs.size:=let ⟨_,hn,_⟩:=I.loc;hn.lt
def Inv.sz(I:Inv X pins σ H s):X.s₀.heap.objs.size<=s.heap.objs.size:=aaf I.ok.above (acQ I.lt)
def Inv.U7(I:Inv X pins σ H s){a:Addr}(h:s.heap.objs.size<=a):a∉X.fs:=λhb=>by
 obtain⟨_,o,ho,_⟩:=I.ok.iz.mem hb;exact absurd (xT (V3 ho) (aaf I.sz h)) (aaK _)
def Inv.nD(I:Inv X pins σ H s):∀x c,X.env.cells.lookup x=some c->c≠X.env.locals:=λx c e z=>by
 obtain⟨v,o,ho,hd⟩:=I.cell x c e;obtain⟨m,⟨o',es,ep,ho',hd',_⟩,_⟩:=I.loc;rw[z,ho']at ho;cases ho;rw[hd']at hd;cases hd
theorem Inv.iz(I:Inv X pins σ H s):s.heap.FunFrames X.base X.outer:=by
 have all:∀(l:List Env),(∀b∈frs l,b∈X.fs)->X.s₀.heap.FunFrames X.base l->s.heap.FunFrames X.base l:=by
  intro l;induction l with
  |nil=>intro _ _;trivial
  |cons env r ih=>
   intro hs hl;obtain⟨hk,⟨L,o,hf,hn,ho,hd⟩,hr⟩:=hl;have hL:L∈X.fs:=hs L (by unfold frs;rw[aaH,hf];exact aaD);obtain⟨sl,e⟩:=I.base.slot L o ho (I.ok.pR L hL) hL λz=>I.ok.qe L z hL;exact⟨hk,⟨L,_,hf,hn,e,hd⟩,ih (λb hb=>hs b (by unfold frs;rw[aaH,hf];exact aam _ hb)) hr⟩
 exact all X.outer (λ_ hb=>hb) I.ok.iz
theorem Inv.stack(I:Inv X pins σ H s):s.heap.FunFrames X.base X.stack:=by
 rcases I.ok.stk with e|⟨e,hf⟩
 .rw[e];exact I.iz
 .rw[e];obtain⟨m,hn,_⟩:=I.loc;refine .cons (by rw[I.ok.kind];decide) hf hn ?_ I.iz;exact Heap.get?_none_of_le (aaf I.ok.nC I.ok.above)
def Inv.qO(I:Inv X pins σ H s):∀b∈frs X.stack,b∈X.env.locals :: X.fs:=λb hb=>by
 rcases I.ok.stk with e|⟨e,hf⟩
 .rw[e]at hb;exact aam _ hb
 .rw[e]at hb;unfold frs at hb;rw[aaH,hf]at hb;exact hb
def Inv.sL(I:Inv X pins σ H s):∀b∈frs X.stack,H b=none:=λb hb=>by
 rcases List.mem_cons.mp (I.qO b hb)with e|hb
 .rw[e];exact I.free
 .obtain⟨_,o,ho,_⟩:=I.ok.iz.mem hb;exact I.base.free b o ho (I.ok.pR b hb) λz=>I.ok.qe b z hb
def Inv.step{g':Array GenState}{t':Nat}{d':Drawn}{ch:List Addr}(I:Inv X pins σ H s)
  (hch:∀b∈ch,(b∈X.ex\/X.s₀.heap.objs.size<=b)/\b≠X.env.locals/\(∀x c,X.env.cells.lookup x=some c->c≠b)/\∀p∈X.pn++pins,p.1≠b)
  (keep:∀b o,b≠X.env.locals->b∉X.fs->b∉ch->s.heap.get? b=some o->H b=none->h'.get? b=some o)
  (slot:∀b o,b≠X.env.locals->b∈X.fs->b∉ch->s.heap.get? b=some o->H b=none->∃sl,h'.get? b=some { o with slots:=sl }) (free:∀b o,b∉ch->s.heap.get? b=some o->H b=none->H' b=none)
  (there:∀b o,b∉ch->s.heap.get? b=some o->∃o',h'.get? b=some o')
  (tups:∀b xs,H b=some (.tup xs)->H' b=some (.tup xs)) (kh:∀b o u,H b=some (.bY o u)->H' b=some (.bY o u)) (lB:∀b ps,H b=some (.um ps)->∃more,H' b=some (.um (ps++more)))
  (ns:∀m,s.heap.Ns X.env.locals m->h'.Ns X.env.locals m) (hok:ee X.prog X.w H' h') (hg:AllBare g') :
  Inv X pins σ H' { s with heap:=h',gens:=g',drawn:=d',toks:=t' }:=by
 have T4:∀b o,X.s₀.heap.get? b=some o->b≠X.env.locals:=λb o e=>aah (xT (V3 e) I.ok.above);have G5:∀b o,X.s₀.heap.get? b=some o->b∉X.ex->b∉ch:=λb o e hx hb=>by
  rcases(hch b hb).1 with z|z
  .exact hx z
  .exact absurd (xT (V3 e) z) (aaK _)
 have cellK:∀x c,X.env.cells.lookup x=some c->∀v,s.heap.IsCell c v->h'.IsCell c v:=λx c e v ⟨o,ho,hd⟩=>by
  have B7:c∉ch:=λz=>(hch c z).2.2.1 x c e rfl;by_cases hc:c∈X.fs
  .obtain⟨sl,q⟩:=slot c o (I.nD x c e) hc B7 ho (I.ir x c e);exact⟨_,q,hd⟩
  .exact⟨o,keep c o (I.nD x c e) hc B7 ho (I.ir x c e),hd⟩
 refine⟨I.ok,I.os,hg,⟨λb o e n hb hx=>?_,λb o e n hb hx=>?_,λb o e n hx=>?_,λb o e hx=>?_,λb xs e=>tups b xs (I.base.tups b xs e),λb o xs e=>kh b o xs (I.base.kh b o xs e),λb ps e=>?_⟩,?_,λx c e=>?_,?_,λx c e=>?_,λp hp=>?_,hok,I.len⟩
 .exact keep b o (T4 b o e) hb (G5 b o e hx) (I.base.keep b o e n hb hx) (I.base.free b o e n hx)
 .obtain⟨sl,e1⟩:=I.base.slot b o e n hb hx;obtain⟨WT,e2⟩:=slot b _ (T4 b o e) hb (G5 b o e hx) e1 (I.base.free b o e n hx);exact⟨WT,e2⟩
 .obtain⟨o',e1⟩:=I.base.there b o e hx;exact free b o' (G5 b o e hx) e1 (I.base.free b o e n hx)
 .obtain⟨o',e1⟩:=I.base.there b o e hx;exact there b o' (G5 b o e hx) e1
 .obtain⟨m1,e1⟩:=I.base.lB b ps e;obtain⟨m2,e2⟩:=lB b _ e1;exact⟨m1++m2,by rw[e2,Array.append_assoc]⟩
 .obtain⟨m,hn,hl⟩:=I.loc;refine⟨m,ns m hn,λi x v e1 e2 e3=>?_⟩;obtain⟨u,r,l⟩:=hl i x v e1 e2 e3;refine⟨u,r,?_⟩;rcases l with l|⟨k,c,e,z⟩
  .exact .inl l
  .exact .inr ⟨k,c,e,cellK x c e _ z⟩
 .obtain⟨v,z⟩:=I.cell x c e;exact⟨v,cellK x c e v z⟩
 .obtain⟨m,⟨o,_,_,ho,_⟩,_⟩:=I.loc;exact free _ o (λz=>(hch _ z).2.1 rfl) ho I.free
 .obtain⟨v,o,ho,hd⟩:=I.cell x c e;exact free c o (λz=>(hch c z).2.2.1 x c e rfl) ho (I.ir x c e)
 .obtain⟨e,n,ne,nf,d⟩:=I.pin p hp;have B7:p.1∉ch:=λz=>(hch p.1 z).2.2.2 p hp rfl;exact⟨keep p.1 p.2 ne nf B7 e n,free p.1 p.2 B7 e n,ne,nf,d⟩
def Inv.un{t':Nat}(I:Inv X pins σ H s)(u:Un X.fs [] H H' s.heap h')(hok:ee X.prog X.w H' h'):Inv X pins σ H' { s with heap:=h',toks:=t' }:=by
 obtain⟨m,⟨o,es,ep,ho,r⟩,_⟩:=id I.loc;obtain⟨sl,hL⟩:=u.any ho I.free (by simp);exact I.step (g':=s.gens) (d':=s.drawn) (ch:=[]) (λ_ z=>nomatch z) (λb o _ hb _ e n=>u.keep b o e n hb (by simp)) (λb o _ hb _ e n=>u.slot b o e n hb (by simp)) (λb o _ e n=>u.free b o e n (by simp)) (λb o _ e=>u.there b o e (by simp)) u.tups u.kh u.lB (λm' hm=>by
  obtain⟨o',es',L6,ho',r'⟩:=hm;rw[ho]at ho';cases ho';exact⟨_,es',L6,hL,r'⟩) hok I.bare
def Inv.call{g':Array GenState}{t':Nat}{d':Drawn}{ch:List Addr}(I:Inv X pins σ H s)(u:Un (frs X.stack) ch H H' s.heap h')(hok:ee X.prog X.w H' h')(hg:AllBare g')
  (hch:∀b∈ch,(b∈X.ex\/X.s₀.heap.objs.size<=b)/\b≠X.env.locals/\(∀x c,X.env.cells.lookup x=some c->c≠b)/\∀p∈X.pn++pins,p.1≠b) :
  Inv X pins σ H' { s with heap:=h',gens:=g',drawn:=d',toks:=t' }:=by
 obtain⟨m,⟨o,es,ep,ho,r⟩,_⟩:=id I.loc;obtain⟨sl,hL⟩:=u.any ho I.free λz=>(hch _ z).2.1 rfl;exact I.step (ch:=ch) hch (λb o hL hb hc e n=>u.keep b o e n (λz=>(List.mem_cons.mp (I.qO b z)).elim hL hb) hc) (λb o _ _ hc e n=>u.any e n hc) (λb o hc e n=>u.free b o e n hc) (λb o hc e=>u.there b o e hc) u.tups u.kh u.lB (λm' hm=>by
  obtain⟨o',es',L6,ho',r'⟩:=hm;rw[ho]at ho';cases ho';exact⟨_,es',L6,hL,r'⟩) hok hg
def Inv.turned{t':Nat}{it:Addr}(I:Inv X pins σ H s)(k:∀b o,b≠it->s.heap.get? b=some o->h'.get? b=some o)(hn:H it=none)(hL:it≠X.env.locals)
  (h1:it∈X.ex\/X.s₀.heap.objs.size<=it) (h2:∀x c,X.env.cells.lookup x=some c->c≠it) (h3:∀p∈X.pn++pins,p.1≠it):Inv X pins σ H { s with heap:=h',toks:=t' }:=by
 have B8:∀b u,H b=some u->b≠it:=λb u e z=>by rw[z,hn]at e;cases e
 refine I.step (g':=s.gens) (d':=s.drawn) (ch:=[it]) (λb hb=>?_) (λb o _ _ hc e _=>k b o (λz=>hc (by simp[z])) e) (λb o _ _ hc e _=>⟨o.slots,k b o (λz=>hc (by simp[z])) e⟩) (λ_ _ _ _ n=>n)
  (λb o hc e=>⟨o,k b o (λz=>hc (by simp[z])) e⟩) (λ_ _ e=>e) (λ_ _ _ e=>e) (λb ps e=>⟨#[],by rw[e];simp⟩) (λm hm=>?_) (λb u e=>?_) I.bare
 .have e:b=it:=by simpa using hb
  subst e;exact⟨h1,hL,h2,h3⟩
 .obtain⟨o,es,ep,ho,r⟩:=hm;exact⟨o,es,ep,k _ o (aa1 hL) ho,r⟩
 .refine(I.hok b u e).stay (λc v hc q=>k c v ?_ q) (λ_ q=>q) λ_ _ q=>q;rcases hc with z|z
  .rw[z];exact B8 b u e
  .exact B8 c _ z
def Inv.tok(I:Inv X pins σ H s)(t:Nat):Inv X pins σ H { s with toks:=t }:=I.un (h':=s.heap) (t':=t) Un.refl I.hok
theorem Inv.kept{t':Nat}(I:Inv X pins σ H s)(k:∀b u,s.heap.get? b=some u->h'.get? b=some u):Inv X pins σ H { s with heap:=h',toks:=t' }:=I.un (Un.kept k) (I.hok.kept k)
theorem Inv.laid{a:Addr}{o:HO}{t':Nat}(I:Inv X pins σ H s)(k:∀b u,s.heap.get? b=some u->h'.get? b=some u)(hp:s.heap.objs.size<=a)(new:cR X.prog X.w (upd H a o) h' a o) :
  Inv X pins σ (upd H a o) { s with heap:=h',toks:=t' }:=I.un (Un.laid k hp (I.hok.fresh hp)) (I.hok.laid k hp new)
theorem Inv.write{x e:Addr}{o:HO}{t':Nat}(I:Inv X pins σ H s)(mu:B4 (H x))(he:e=x\/H e=some (.own x))(k:∀b u,b≠e->s.heap.get? b=some u->h'.get? b=some u)(yN:∃u,h'.get? e=some u)
  (new:cR X.prog X.w (upd H x o) h' x o):Inv X pins σ (upd H x o) { s with heap:=h',toks:=t' }:=I.un (Un.write mu he k yN) (I.hok.write mu he k yN new)
def Inv.yO{G6:List (Addr×Obj)}(I:Inv X pins σ H s)(h:∀p∈G6,s.heap.get? p.1=some p.2/\H p.1=none/\p.1≠X.env.locals/\p.1∉X.fs/\∀v,p.2.data≠.cell v):Inv X G6 σ H s:=
 ⟨I.ok,I.os,I.bare,I.base,I.loc,I.cell,I.free,I.ir,λp hp=>(List.mem_append.mp hp).elim (λz=>I.pin p (acI _ z)) (h p),I.hok,I.len⟩
def qf{N:List Str}(hN:N.Nodup){i j:Nat}{x:Str}(a:N[i]?=some x)(b:N[j]?=some x):i=j:=by
 obtain⟨h1,e1⟩:=List.getElem?_eq_some_iff.mp a;obtain⟨h2,e2⟩:=List.getElem?_eq_some_iff.mp b;exact(List.getElem_inj hN).mp (e1.trans e2.symm)
def uq{M:Model}{A:Around}{E:Value->Shared->Prop}{i:Nat}{x:Str}{v:V}{u:Value}{Q:Unit->Shared->Prop}(I:Inv X pins σ H s)(hN:X.N.Nodup)(hi:X.N[i]?=some x)(hx:Loc X.env.scope x)(r:RelV v u)
  (h:∀s',Inv X pins (σ.set i (some v)) H s'->(∃a,Heap.SameBut a s.heap s'.heap/\(a=X.env.locals\/X.env.cells.lookup x=some a))->Q () s') (hf:X.fn x=true\/X.env.scope.names.lookup x=some .local:=by first|exact .inl rfl|exact .inr rfl|assumption):wpAny M A (storeName X.env x u) Q E s:=by
 obtain⟨m,hn,hl⟩:=id I.loc;have hcls:(X.env.scope.kind==.class || (X.env.scope.kind==.module&&X.env.locals != X.env.globals))=false:=by rw[I.ok.kind];rfl
 have Au:i<σ.length:=by rw[I.len];exact(List.getElem?_eq_some_iff.mp hi).1
 have nD:=I.nD;have tracked:∀{a:Addr} {h':Heap},(∃o,s.heap.get? a=some o/\H a=none)->Heap.SameBut a s.heap h'->ee X.prog X.w H h':=λ{a h'} ha hs b ob e=>by
  obtain⟨_,_,hfree⟩:=ha;refine(I.hok b ob e).stay (λc w' hc q=>(hs.2 c ?_).trans q) (λ_ q=>q) λ_ _ q=>q;rintro rfl;rcases hc with rfl|hc
  .rw[hfree]at e;cases e
  .rw[hfree]at hc;cases hc
 rcases hx with hk|hk
 .refine wpAny_storeName_local hk hn (λh' hn' hs=>?_) hcls;obtain⟨oL,_,_,T5,_⟩:=id hn;refine h _ ⟨I.ok,I.os,I.bare,⟨λb o e n hb hx=>?_,λb o e n hb hx=>?_,I.base.free,λb o e hx=>?_,I.base.tups,I.base.kh,I.base.lB⟩,⟨_,hn',λj y v' e1 e2 e3=>?_⟩,λy c e=>?_,I.free,I.ir,λp hp=>?_,tracked ⟨oL,T5,I.free⟩ hs,by simpa using I.len⟩ ⟨_,hs,.inl rfl⟩
  .exact(hs.2 b (aah (xT (V3 e) I.ok.above))).trans (I.base.keep b o e n hb hx)
  .obtain⟨sl,e1⟩:=I.base.slot b o e n hb hx;exact⟨sl,(hs.2 b (aah (xT (V3 e) I.ok.above))).trans e1⟩
  .obtain⟨o',e1⟩:=I.base.there b o e hx;exact⟨o',(hs.2 b (aah (xT (V3 e) I.ok.above))).trans e1⟩
  .by_cases hj:j=i
   .subst hj;rw[hi]at e1;cases e1;rw[WS Au]at e2;cases e2;exact⟨u,r,.inl ⟨hk,by simp⟩⟩
   .rw[UJ (aa1 hj)]at e2;obtain⟨u',r',q⟩:=hl j y v' e1 e2 e3;refine⟨u',r',?_⟩;rcases q with ⟨k,e⟩|⟨k,c,e,z⟩
    .refine .inl ⟨k,?_⟩;have:y≠x:=λe=>hj (qf hN e1 (e▸hi));simp[this,e]
    .exact .inr ⟨k,c,e,z.sameBut hs (nD y c e)⟩
  .obtain⟨w',z⟩:=I.cell y c e;exact⟨w',z.sameBut hs (nD y c e)⟩
  .obtain⟨e,n,ne,nf,d⟩:=I.pin p hp;exact⟨(hs.2 p.1 ne).trans e,n,ne,nf,d⟩
 .have hfn:X.fn x=true:=by
   rcases hf with z|z
   .exact z
   .rw[z]at hk;cases hk
  obtain⟨c,hc⟩:=I.ok.has x (.inl hk);obtain⟨w',z⟩:=I.cell x c hc;refine wpAny_storeName_cell I.ok.kind hk hc z (λh' hc' hs=>?_);obtain⟨oc,hoc,U8⟩:=id z;refine h { s with heap:=h' } ⟨I.ok,I.os,I.bare,⟨λb o e n hb hx=>?_,λb o e n hb hx=>?_,I.base.free,λb o e hx=>?_,I.base.tups,I.base.kh,I.base.lB⟩,⟨m,hn.sameBut hs (aa1 (nD x c hc)),λj y v' e1 e2 e3=>?_⟩,λy c' e=>?_,I.free,I.ir,λp hp=>?_,tracked ⟨oc,hoc,I.ir x c hc⟩ hs,by simpa using I.len⟩ ⟨c,hs,.inr hc⟩
  .exact(hs.2 b (aah (xT (V3 e) (I.ok.vG x c hfn hc)))).trans (I.base.keep b o e n hb hx)
  .obtain⟨sl,e1⟩:=I.base.slot b o e n hb hx;exact⟨sl,(hs.2 b (aah (xT (V3 e) (I.ok.vG x c hfn hc)))).trans e1⟩
  .obtain⟨o',e1⟩:=I.base.there b o e hx;exact⟨o',(hs.2 b (aah (xT (V3 e) (I.ok.vG x c hfn hc)))).trans e1⟩
  .by_cases hj:j=i
   .subst hj;rw[hi]at e1;cases e1;rw[WS Au]at e2;cases e2;exact⟨u,r,.inr ⟨.inl hk,c,hc,hc'⟩⟩
   .rw[UJ (aa1 hj)]at e2;obtain⟨u',r',q⟩:=hl j y v' e1 e2 e3;refine⟨u',r',?_⟩;rcases q with q|⟨k,c',e,z'⟩
    .exact .inl q
    .refine .inr ⟨k,c',e,z'.sameBut hs ?_⟩;rintro rfl;exact hj (qf hN e1 (I.ok.inj _ _ _ e hc▸hi))
  .by_cases hcc:c'=c
   .subst hcc;exact⟨_,hc'⟩
   .obtain⟨w2,z2⟩:=I.cell y c' e;exact⟨w2,z2.sameBut hs hcc⟩
  .obtain⟨e,n,ne,nf,d⟩:=I.pin p hp;refine⟨(hs.2 p.1 ?_).trans e,n,ne,nf,d⟩;intro q;rw[q,hoc]at e;have q':oc=p.2:=PV e;exact d w' (by rw[<-q'];exact U8)
def qg{M:Model}{A:Around}{E:Value->Shared->Prop}{i:Nat}{x:Str}{v:V}{u:Value}{Q:Unit->Shared->Prop}(I:Inv X pins σ H s)(hN:X.N.Nodup)(hi:X.N[i]?=some x)(hx:Loc X.env.scope x)(r:RelV v u)
  (h:∀s',Inv X pins (σ.set i (some v)) H s'->Q () s') (hf:X.fn x=true\/X.env.scope.names.lookup x=some .local:=by first|exact .inl rfl|exact .inr rfl|assumption):wpAny M A (storeName X.env x u) Q E s:=
 uq I hN hi hx r (λs' I' _=>h s' I') hf
def Inv.vd{s':Shared}{ch:List Addr}(I:Inv X pins σ H s)(ho:s'.os=s.os)(u:Un (frs X.stack) ch H H' s.heap s'.heap)(hok:ee X.prog X.w H' s'.heap)(hg:AllBare s'.gens)
  (hch:∀b∈ch,(b∈X.ex\/X.s₀.heap.objs.size<=b)/\b≠X.env.locals/\(∀x c,X.env.cells.lookup x=some c->c≠b)/\∀p∈X.pn++pins,p.1≠b):Inv X pins σ H' s':=by
 obtain⟨h',g',d',t',o'⟩:=s';have e:o'=s.os:=ho;subst e;exact I.call (g':=g') (t':=t') (d':=d') u hok hg hch
end
abbrev XK:=Value->Option Addr->Hp->Prop
abbrev St:=List (Option V)
abbrev VK:=V->Hp->Prop
abbrev TE:=St->Hp->VK->Prop
abbrev TT:=St->Hp->(Bool->Hp->Prop)->Prop
abbrev TA:=St->Hp->(List V->Hp->Prop)->Prop
structure Ends where
 nx:St->Hp->Prop
 rt:VK
 bk:St->Hp->Prop:=λ_ _=>False
 ct:St->Hp->Prop:=λ_ _=>False
abbrev TS:=Ends->St->Hp->Prop
noncomputable def EP(X:Cx)(pins:List (Addr×Obj))(σ:St)(Q:VK)(u:Value)(s':Shared):Prop:=∃v H',Inv X pins σ H' s'/\RelV v u/\Q v H'
noncomputable def TP(X:Cx)(pins:List (Addr×Obj))(σ:St)(Q:Bool->Hp->Prop)(b:Bool)(s':Shared):Prop:=∃H',Inv X pins σ H' s'/\Q b H'
noncomputable def AP(X:Cx)(pins:List (Addr×Obj))(σ:St)(Q:List V->Hp->Prop)(us:List Value)(s':Shared):Prop:=∃vs H',Inv X pins σ H' s'/\Vals vs us/\Q vs H'
noncomputable def SP(X:Cx)(pins:List (Addr×Obj))(D:Ends)(f:Flow)(s':Shared):Prop:=
 match f with
 |.next=>∃σ' H',Inv X pins σ' H' s'/\D.nx σ' H'
 |.brk=>∃σ' H',Inv X pins σ' H' s'/\D.bk σ' H'
 |.cont=>∃σ' H',Inv X pins σ' H' s'/\D.ct σ' H'
 |.ret u=>∃v σ' H',Inv X pins σ' H' s'/\RelV v u/\D.rt v H'
noncomputable def PE(X:Cx)(e:Expr)(t:TE):Prop:=
 ∀(pins:List (Addr×Obj)) (s:Shared) (σ:St) (H:Hp) (Q:VK),Inv X pins σ H s->t σ H Q->wpAny (model X.prog X.w) X.A (eval e X.env) (EP X pins σ Q) X.xe s
noncomputable def PT(X:Cx)(e:Expr)(t:TT):Prop:=
 ∀(pins:List (Addr×Obj)) (s:Shared) (σ:St) (H:Hp) (Q:Bool->Hp->Prop),Inv X pins σ H s->t σ H Q->wpAny (model X.prog X.w) X.A (isTrue e X.env (eval e X.env)) (TP X pins σ Q) X.xe s
noncomputable def PW(X:Cx)(e:Expr)(t:TT):Prop:=
 ∀(whole:Sem Value) (pins:List (Addr×Obj)) (s:Shared) (σ:St) (H:Hp) (Q:Bool->Hp->Prop),Inv X pins σ H s->t σ H Q->wpAny (model X.prog X.w) X.A (isTrue e X.env whole) (TP X pins σ Q) X.xe s
def PW.pt{X:Cx}{e:Expr}{t:TT}(h:PW X e t):PT X e t:=h _
noncomputable def PA(X:Cx)(es:List Expr)(t:TA):Prop:=
 ∀(pos:Pos) (pins:List (Addr×Obj)) (s:Shared) (σ:St) (H:Hp) (Q:List V->Hp->Prop),Inv X pins σ H s->t σ H Q->wpAny (model X.prog X.w) X.A (spliced (backTo pos (starEach es X.env))) (AP X pins σ Q) X.xe s
noncomputable def PS(X:Cx)(st:Stmt)(t:TS):Prop:=
 ∀(pins:List (Addr×Obj)) (s:Shared) (σ:St) (H:Hp) (D:Ends),Inv X pins σ H s->t D σ H->wpAny (model X.prog X.w) X.A (exec st X.env) (SP X pins D) X.xe s
noncomputable def fD(X:Cx)(st:List Stmt)(t:TS):Prop:=
 ∀(pins:List (Addr×Obj)) (s:Shared) (σ:St) (H:Hp) (D:Ends),Inv X pins σ H s->t D σ H->wpAny (model X.prog X.w) X.A (execs st X.env) (SP X pins D) X.xe s
def bC{α:Type}{t:Sem α}{Q Q':α->Shared->Prop}{M:Model}{A:Around}{E:Value->Shared->Prop}{s:Shared}(h:wpAny M A t Q E s)(hQ:∀a s,Q a s->Q' a s):wpAny M A t Q' E s:=aas h hQ λ_ _ x=>x
section
variable{X:Cx}
def bin{a b:Expr}{ta tb:TE}(ha:PE X a ta)(hb:PE X b tb){pins:List (Addr×Obj)}{s:Shared}{σ:St}{H:Hp}{R:V->V->Hp->Prop}(I:Inv X pins σ H s)(h:ta σ H λx H1=>tb σ H1 λy H2=>R x y H2)
  {α:Type} {Q:α->Shared->Prop} {f:Value->Value->Sem α}
  (hf:∀v u s2 x y H2,Inv X pins σ H2 s2->RelV x v->RelV y u->R x y H2->wpAny (model X.prog X.w) X.A (f v u) Q X.xe s2) :
  wpAny (model X.prog X.w) X.A (eval a X.env) (λv s₁=>wpAny (model X.prog X.w) X.A (eval b X.env) (λu s₂=>wpAny (model X.prog X.w) X.A (f v u) Q X.xe s₂) X.xe s₁) X.xe s:=by
 refine bC (ha pins s σ H _ I h) λv s1 ⟨x,H1,I1,r1,q1⟩=>?_;refine bC (hb pins s1 σ H1 _ I1 q1) λu s2 ⟨y,H2,I2,r2,q2⟩=>?_;exact hf v u s2 x y H2 I2 r1 r2 q2
noncomputable def L7(i:Nat):TE:=λσ H Q=>∃v,σ[i]?=some (some v)/\Q v H
noncomputable def tC(v:V):TE:=λ_ H Q=>Q v H
def qP {i:Nat}{x:Str}{pos:Pos}(hN:X.N[i]?=some x) (hv:uo X.env.scope x) (hd:(x==("__debug__" : Str))=false:=by decide) (hcd:(x==("__classdict__" : Str))=false:=by decide):PE X (.Name x pos) (L7 i):=by
 intro pins s σ H Q I h;obtain⟨v,e,h⟩:=h;obtain⟨m,hn,hl⟩:=I.loc;obtain⟨u,r,l⟩:=hl i x v hN e hv;have fin:EP X pins σ Q u s:=⟨v,H,I,r,h⟩
 rcases l with ⟨hk,hm⟩|⟨hk,c,hc,hcell⟩
 .exact acH (wpAny_loadName_local I.ok.kind hk hn hm fin) hd
 .rcases hk with hk|hk
  .exact acH (wpAny_loadName_cell I.ok.kind hk hc hcell fin) hd
  .exact acH (wpAny_loadName_free I.ok.kind hk hc hcell fin hcd) hd
def B9{i j pos}:PE X (.Constant (.int i) j pos) (tC (.int i)):=λ_ _ _ H _ I h=>wpAny_Constant_int ⟨.int i,H,I.tok _,⟨_,rfl⟩,h⟩
def Q6{b j pos}:PE X (.Constant (.bool b) j pos) (tC (.bl b)):=λ_ _ _ H _ I h=>Constant_bool ⟨.bl b,H,I,rfl,h⟩
def L8{j pos}:PE X (.Constant .none j pos) (tC .aU):=λ_ _ _ H _ I h=>Constant_none ⟨.aU,H,I,rfl,h⟩
def qQ{x j pos}:PE X (.Constant (.str x) j pos) (tC (.str x)):=λ_ _ _ H _ I h=>Calls.Constant_str ⟨.str x,H,I.tok _,⟨_,rfl⟩,h⟩
noncomputable def Gl(X:Cx)(x:Str):Prop:=X.env.kindOf x=some .globalImplicit
def oS{E:Value->Shared->Prop}{pins:List (Addr×Obj)}{s:Shared}{σ:St}{H:Hp}{x:Str}{u:Value}{pos:Pos}{Q:Value->Shared->Prop}(I:Inv X pins σ H s)(hg:Gl X x)(hm:X.mg x=some u)(h:Q u s)
  (hd:(x==("__debug__" : Str))=false:=by decide):wpAny (model X.prog X.w) X.A (eval (.Name x pos) X.env) Q E s:=
 abc I.ok.kind hg (abK (by rw[I.ok.glob];exact I.mod.glob.keeps I.bk) hm h) hd
def iV{E:Value->Shared->Prop}{pins:List (Addr×Obj)}{s:Shared}{σ:St}{H:Hp}{x:Str}{u:Value}{pos:Pos}{Q:Value->Shared->Prop}(I:Inv X pins σ H s)(hg:Gl X x)(hm:X.mg x=none)(hv:bootBuiltins x=some u)(h:Q u s)
  (hn:x≠"__name__" :=by decide) (hd:(x==("__debug__" : Str))=false:=by decide):wpAny (model X.prog X.w) X.A (eval (.Name x pos) X.env) Q E s:=by
 obtain⟨mb,h1,h2⟩:=I.mod.blt;exact abc I.ok.kind hg (Calls.loadGlobal_builtin (by rw[I.ok.glob];exact I.mod.glob.keeps I.bk) hm (by rw[I.ok.blt];exact h1.keeps I.bk) ((h2 x hn).trans hv) h) hd
def lQ {x:Str}{v:V}{u:Value}{pos:Pos}(hg:Gl X x) (hm:X.mg x=some u) (r:RelV v u) (hd:(x==("__debug__" : Str))=false:=by decide):PE X (.Name x pos) (tC v):=
 λ_ _ _ H _ I h=>oS I hg hm ⟨v,H,I,r,h⟩ hd
def Jo {x:Str}{v:V}{u:Value}{pos:Pos}(hg:Gl X x) (hm:X.mg x=none) (hv:bootBuiltins x=some u) (r:RelV v u) (hn:x≠"__name__" :=by decide) (hd:(x==("__debug__" : Str))=false:=by decide):PE X (.Name x pos) (tC v):=
 λ_ _ _ H _ I h=>iV I hg hm hv ⟨v,H,I,r,h⟩ hn hd
variable{a b:Expr}{ta tb:TE}{pos:Pos}
noncomputable def tB(t:TE):TT:=λσ H Q=>t σ H λx H1=>∃c,x=.bl c/\Q c H1
def Ma{e:Expr}{t:TE}(h:PE X e t)(he:∀whole,isTrue e X.env whole=(do let v <-whole;standAt e.pos;holding [v] (truthy v)):=by intro _;rfl):PT X e (tB t):=by
 intro pins s σ H Q I hw;refine isTrue_plain (bC (h pins s σ H _ I hw) λv s1 ⟨x,H1,I1,r1,q1⟩=>?_) (he _);obtain⟨d,rfl,q⟩:=q1;cases r1;exact abL ⟨H1,I1,q⟩
variable{tA G7:TT}{rest:List Expr}
noncomputable def U9(t u:TT):TT:=λσ H Q=>t σ H λc H1=>if c=true then u σ H1 Q else Q false H1
noncomputable def WU(t u:TT):TT:=λσ H Q=>t σ H λc H1=>if c=true then Q true H1 else u σ H1 Q
noncomputable def Va(t:TT):TT:=λσ H Q=>t σ H λc H1=>Q (!c) H1
def Jp(ha:PT X a tA):PW X (.BoolOp .And [a] pos) tA:=by
 intro wh pins s σ H Q I h;refine isTrue_and (bC (ha pins s σ H Q I h) λc s1 e=>?_);cases c with
 |true=>exact isTrue_and_nil e
 |false=>exact e
def Ca(ha:PT X a tA):PW X (.BoolOp .Or [a] pos) tA:=by
 intro wh pins s σ H Q I h;refine isTrue_or (bC (ha pins s σ H Q I h) λc s1 e=>?_);cases c with
 |false=>exact isTrue_or_nil e
 |true=>exact e
def Mb(ha:PT X a tA)(hb:PW X (.BoolOp .And (b :: rest) pos) G7):PW X (.BoolOp .And (a :: b :: rest) pos) (U9 tA G7):=by
 intro wh pins s σ H Q I h;refine isTrue_and (bC (ha pins s σ H _ I h) λc s1 ⟨H1,I1,q1⟩=>?_);cases c with
 |true=>exact hb wh pins s1 σ H1 Q I1 q1
 |false=>exact⟨H1,I1,q1⟩
def G8(ha:PT X a tA)(hb:PW X (.BoolOp .Or (b :: rest) pos) G7):PW X (.BoolOp .Or (a :: b :: rest) pos) (WU tA G7):=by
 intro wh pins s σ H Q I h;refine isTrue_or (bC (ha pins s σ H _ I h) λc s1 ⟨H1,I1,q1⟩=>?_);cases c with
 |true=>exact⟨H1,I1,q1⟩
 |false=>exact hb wh pins s1 σ H1 Q I1 q1
def Cb(ha:PT X a tA):PT X (.UnaryOp .Not a pos) (Va tA):=by
 intro pins s σ H Q I h;exact isTrue_not (ha pins s σ H (λc H1=>Q (!c) H1) I h)
noncomputable def Q7(ta tb:TE):TE:=λσ H Q=>ta σ H λx H1=>∃c,x=.bl c/\if c=true then tb σ H1 Q else Q (.bl false) H1
def Mc{op}{t:TE}(h:PE X a t):PE X (.BoolOp op [a] pos) t:=λpins s σ H Q I hw=>BoolOp_one (h pins s σ H Q I hw)
def Me(ha:PE X a ta)(hb:PE X (.BoolOp .And (b :: rest) pos) tb):PE X (.BoolOp .And (a :: b :: rest) pos) (Q7 ta tb):=by
 intro pins s σ H Q I h;refine BoolOp_and (bC (ha pins s σ H _ I h) λv s1 ⟨x,H1,I1,r1,q1⟩=>?_);obtain⟨c,rfl,q1⟩:=q1;cases r1;refine abL ?_;cases c with
 |true=>exact hb pins s1 σ H1 Q I1 q1
 |false=>exact⟨.bl false,H1,I1,rfl,q1⟩
noncomputable def WV(t:TT)(ta tb:TE):TE:=λσ H Q=>t σ H λc H1=>if c=true then ta σ H1 Q else tb σ H1 Q
def EM{c:Expr}(hc:PT X c tA)(ha:PE X a ta)(hb:PE X b tb):PE X (.IfExp c a b pos) (WV tA ta tb):=by
 intro pins s σ H Q I h;refine wpAny_IfExp (bC (hc pins s σ H _ I h) λd s1 ⟨H1,I1,q1⟩=>?_);cases d with
 |true=>exact ha pins s1 σ H1 Q I1 q1
 |false=>exact hb pins s1 σ H1 Q I1 q1
end
noncomputable def eL(K:PySem.W.Frag)(H:Hp)(a:Addr)(xs:List V):Prop:=
 Rd H a (.lst xs)\/
  ∃(o:Obj) (its:Array Value) (n:Nat),K.lookup a=some o/\o.cls=.type "list" /\o.dict=none/\o.data=.seq its n/\its.size<=sizeLine/\Vals xs its.toList
noncomputable def dJ(K:PySem.W.Frag)(H:Hp)(a:Addr)(xs:List V):Prop:=
 Rd H a (.tup xs)\/
  ∃(o:Obj) (its:Array Value) (n:Nat),K.lookup a=some o/\o.cls=.type "tuple" /\o.data=.seq its n/\its.size<=sizeLine/\Vals xs its.toList
noncomputable def Vb:Value->Option V
 |.none=>some .aU
 |.bool b=>some (.bl b)
 |.int i _=>some (.int i)
 |.str x _=>some (.str x)
 |.bytes b _=>some (.nA b)
 |.float b _=>some (.L3 b)
 |.ref a=>some (.ref a)
 |.type n=>some (.ty n)
 |_=>none
def RelV.abs{x:V}{u:Value}(r:RelV x u):Vb u=some x:=by
 cases x with
 |aU=>cases r;rfl
 |bl _=>cases r;rfl
 |int _=>obtain⟨t,rfl⟩:=r;rfl
 |str _=>obtain⟨t,rfl⟩:=r;rfl
 |nA _=>obtain⟨t,rfl⟩:=r;rfl
 |L3 _=>obtain⟨t,rfl⟩:=r;rfl
 |ref _=>cases r;rfl
 |ty _=>cases r;rfl
theorem RelV.inj{x y:V}{u:Value}(r:RelV x u)(q:RelV y u):x=y:=PV (r.abs.symm.trans q.abs)
theorem Vals.inj:∀{xs ys:List V}{us:List Value},Vals xs us->Vals ys us->xs=ys
 |_,_,_,.nil,.nil=>rfl
 |_,_,_,.cons r t,.cons r' t'=>by rw[r.inj r',Vals.inj t t']
section
variable{X:Cx}{pins:List (Addr×Obj)}{σ:St}{H:Hp}{s:Shared}{a:Addr}{xs ys:List V}
def eL.of{K:PySem.W.Frag}(h:H a=some (.lst xs)):eL K H a xs:=.inl (.inl h)
def dJ.of{K:PySem.W.Frag}(h:H a=some (.tup xs)):dJ K H a xs:=.inl (.inl h)
def Inv.list(I:Inv X pins σ H s)(h:eL X.K H a xs):∃its:List Value,Vals xs its/\PlainL s.heap a its.toArray/\xs.length<=sizeLine:=by
 rcases h with h|⟨o,its,n,hk,hc,hd,hs,hz,r⟩
 .obtain⟨z,its,n,r,e⟩:=h.ok I.hok;exact⟨its,r,⟨_,n,e,rfl,rfl,rfl⟩,z⟩
 .refine⟨its.toList,r,⟨o,n,I.jE a o hk,hc,hd,by simpa using hs⟩,?_⟩;have e:=r.length;simp only[abw]at e;omega
def Inv.tuple(I:Inv X pins σ H s)(h:dJ X.K H a xs):∃its:List Value,Vals xs its/\IsTup s.heap a its.toArray/\xs.length<=sizeLine:=by
 rcases h with h|⟨o,its,n,hk,hc,hs,hz,r⟩
 .obtain⟨z,its,r,p⟩:=h.ok I.hok;exact⟨its,r,p,z⟩
 .refine⟨its.toList,r,⟨o,I.jE a o hk,hc,n,by simpa using hs⟩,?_⟩;have e:=r.length;simp only[abw]at e;omega
def Inv.vH(I:Inv X pins σ H s)(h:eL X.K H a xs)(h':eL X.K H a ys):xs=ys:=by
 obtain⟨its,r,⟨o,n,e,_,_,d⟩,_⟩:=I.list h;obtain⟨its',r',⟨o',n',e',_,_,d'⟩,_⟩:=I.list h';rw[e]at e';cases e';rw[d]at d';injection d' with d1 _
 have:its=its':=by simpa using aab Array.toList d1
 subst this;exact r.inj r'
def Inv.nE(I:Inv X pins σ H s)(h:dJ X.K H a xs)(h':dJ X.K H a ys):xs=ys:=by
 obtain⟨its,r,⟨o,e,_,n,d⟩,_⟩:=I.tuple h;obtain⟨its',r',⟨o',e',_,n',d'⟩,_⟩:=I.tuple h';rw[e]at e';cases e';rw[d]at d';injection d' with d1 _
 have:its=its':=by simpa using aab Array.toList d1
 subst this;exact r.inj r'
end
abbrev Cx.jq(X:Cx)(E:Value->Shared->Prop):Cx:={ X with xe:=E }
abbrev Cx.gu(X:Cx):Cx:=X.jq λ_ _=>False
theorem Cx.Ok.jq{X:Cx}(ok:X.Ok)(E:Value->Shared->Prop):(X.jq E).Ok:=
 ⟨ok.mod,ok.kind,ok.glob,ok.blt,ok.above,ok.inj,ok.has,ok.vG,ok.hd,ok.frames,ok.stk,ok.B6,ok.bs,ok.nC,ok.qd,ok.qe,ok.iz,ok.pR⟩
def Cx.Ok.gw{X:Cx}{E:Value->Shared->Prop}(ok:(X.jq E).Ok):X.Ok:=
 ⟨ok.mod,ok.kind,ok.glob,ok.blt,ok.above,ok.inj,ok.has,ok.vG,ok.hd,ok.frames,ok.stk,ok.B6,ok.bs,ok.nC,ok.qd,ok.qe,ok.iz,ok.pR⟩
section
variable{X:Cx}{pins:List (Addr×Obj)}{σ:St}{H:Hp}{s:Shared}{E:Value->Shared->Prop}
theorem Inv.jq(I:Inv X pins σ H s)(E:Value->Shared->Prop):Inv (X.jq E) pins σ H s:=⟨I.ok.jq E,I.os,I.bare,I.base,I.loc,I.cell,I.free,I.ir,I.pin,I.hok,I.len⟩
theorem Inv.gw(I:Inv (X.jq E) pins σ H s):Inv X pins σ H s:=⟨I.ok.gw,I.os,I.bare,I.base,I.loc,I.cell,I.free,I.ir,I.pin,I.hok,I.len⟩
theorem SP.gw{D:Ends}{f:Flow}{s':Shared}(h:SP (X.jq E) pins D f s'):SP X pins D f s':=by
 cases f with
 |next=>obtain⟨σ',H',I,q⟩:=h;exact⟨σ',H',I.gw,q⟩
 |brk=>obtain⟨σ',H',I,q⟩:=h;exact⟨σ',H',I.gw,q⟩
 |cont=>obtain⟨σ',H',I,q⟩:=h;exact⟨σ',H',I.gw,q⟩
 |ret u=>obtain⟨v,σ',H',I,r,q⟩:=h;exact⟨v,σ',H',I.gw,r,q⟩
theorem PT.gu{e:Expr}{t:TT}(h:PT X.gu e t):PT X e t:=λpins s σ H Q I hw=>
 aas (h pins s σ H Q (I.jq _) hw) (λ_ _ ⟨H',I',q⟩=>⟨H',I'.gw,q⟩) λ_ _ z=>False.elim z
theorem fD.gu{st:List Stmt}{t:TS}(h:fD X.gu st t):fD X st t:=λpins s σ H D I hw=>
 aas (h pins s σ H D (I.jq _) hw) (λ_ _ q=>q.gw) λ_ _ z=>False.elim z
end
section
variable{X:Cx}{st:Stmt}{rest:List Stmt}{t u:TS}{e:Expr}{te:TE}{pos:Pos}
noncomputable def Q8:TS:=λD σ H=>D.nx σ H
noncomputable def Vc(t u:TS):TS:=λD σ H=>t { D with nx:=u D } σ H
def yP:fD X [] Q8:=λ_ _ σ H _ I h=>abx ⟨σ,H,I,h⟩
def jr(h1:PS X st t)(h2:fD X rest u):fD X (st :: rest) (Vc t u):=by
 intro pins s σ H D I h;refine abo (bC (h1 pins s σ H { D with nx:=u D } I h) λf s1 q=>?_);cases f with
 |next=>
  obtain⟨σ',H',I',q⟩:=q;exact h2 pins s1 σ' H' D I' q
 |ret v=>exact q
 |brk=>exact q
 |cont=>exact q
def yQ(h1:PS X st t):fD X [st] t:=by
 intro pins s σ H D I h;refine abo (bC (h1 pins s σ H D I h) λf s1 q=>?_);cases f with
 |next=>exact abx q
 |ret v=>exact q
 |brk=>exact q
 |cont=>exact q
def Inv.quiet{pins:List (Addr×Obj)}{σ:St}{H:Hp}{s:Shared}(I:Inv X pins σ H s):interactive X.env=false:=by simp[interactive,I.ok.kind]
noncomputable def Q9(te:TE):TS:=λD σ H=>te σ H λ_ H1=>D.nx σ H1
def Jq(he:PE X e te)(hs:swapsWith e none pos.line X.env=pure false:=by rfl):PS X (.Expr e pos) (Q9 te):=by
 intro pins s σ H D I h;exact wpAny_Expr_any (bC (he pins s σ H _ I h) λv s1 ⟨x,H1,I1,r1,q1⟩=>⟨σ,H1,I1,q1⟩) I.quiet hs
noncomputable def Vd(te:TE):TS:=λD σ H=>te σ H D.rt
def vI(he:PE X e te):PS X (.Return (some e) pos) (Vd te):=by
 intro pins s σ H D I h;exact ace (bC (he pins s σ H _ I h) λv s1 ⟨x,H1,I1,r1,q1⟩=>⟨x,σ,H1,I1,r1,q1⟩)
noncomputable def Ve(c:TT)(t u:TS):TS:=λD σ H=>c σ H λb H1=>if b=true then t D σ H1 else u D σ H1
def Av{c:Expr}{a b:List Stmt}{tc:TT}(hc:PT X c tc)(ha:fD X a t)(hb:fD X b u):PS X (.If c a b pos) (Ve tc t u):=by
 intro pins s σ H D I h;refine wpAny_If (bC (hc pins s σ H _ I h) λd s1 ⟨H1,I1,q1⟩=>?_);cases d with
 |true=>exact ha pins s1 σ H1 D I1 q1
 |false=>exact hb pins s1 σ H1 D I1 q1
noncomputable def Cc:TS:=λ_ _ _=>False
def EN:PS X st Cc:=λ_ _ _ _ _ _ h=>h.elim
def Cd{sts:List Stmt}:fD X sts Cc:=λ_ _ _ _ _ _ h=>h.elim
end
abbrev TG:=V->St->Hp->(St->Hp->Prop)->Prop
abbrev ur:=List V->St->Hp->(St->Hp->Prop)->Prop
noncomputable def PG(X:Cx)(target:Expr)(t:TG):Prop:=
 ∀(pins:List (Addr×Obj)) (s:Shared) (σ:St) (H:Hp) (v:V) (u:Value) (Q:St->Hp->Prop),Inv X pins σ H s->RelV v u->t v σ H Q->
  wpAny (model X.prog X.w) X.A (assign target X.env u) (λ_ s'=>∃σ' H',Inv X pins σ' H' s'/\Q σ' H') X.xe s
noncomputable def pS(X:Cx)(ts:List Expr)(t:ur):Prop:=
 ∀(pins:List (Addr×Obj)) (s:Shared) (σ:St) (H:Hp) (vs:List V) (us:List Value) (Q:St->Hp->Prop),Inv X pins σ H s->Vals vs us->t vs σ H Q->
  wpAny (model X.prog X.w) X.A (assignInOrder ((assignEach ts X.env).map (·.2)) us) (λ_ s'=>∃σ' H',Inv X pins σ' H' s'/\Q σ' H') X.xe s
abbrev EO:=V->V->V->Hp->(Hp->Prop)->Prop
noncomputable def Mf(X:Cx)(t:EO):Prop:=
 ∀(pins:List (Addr×Obj)) (s:Shared) (σ:St) (H:Hp) (o i v:V) (ov iv u:Value) (Q:Hp->Prop),Inv X pins σ H s->RelV o ov->RelV i iv->RelV v u->t o i v H Q->
  wpAny (model X.prog X.w) X.A (setItem ov iv u) (λ_ s'=>∃H',Inv X pins σ H' s'/\Q H') X.xe s
section
variable{X:Cx}{pos:Pos}
noncomputable def G9(i:Nat):TG:=λv σ H Q=>Q (σ.set i (some v)) H
def yR{i:Nat}{x:Str}(hN:X.N.Nodup)(hi:X.N[i]?=some x)(hx:Loc X.env.scope x)(hf:X.fn x=true\/X.env.scope.names.lookup x=some .local:=by first|exact .inl rfl|exact .inr rfl|assumption):PG X (.Name x pos) (G9 i):=by
 intro pins s σ H v u Q I r h;exact wpAny_assign_Name (qg I hN hi hx r (λs' I'=>⟨_,H,I',h⟩) hf)
noncomputable def Vf:ur:=λvs σ H Q=>vs=[]/\Q σ H
noncomputable def Ra(t:TG)(u:ur):ur:=λvs σ H Q=>∃v r,vs=v :: r/\t v σ H λσ' H'=>u r σ' H' Q
def Jr:pS X [] Vf:=by
 intro pins s σ H vs us Q I r h;obtain⟨e,h⟩:=h;subst e;cases r;exact assignInOrder_nil ⟨σ,H,I,h⟩
def ER{e:Expr}{es:List Expr}{t:TG}{u:ur}(h1:PG X e t)(h2:pS X es u)
  (hs:(assignEach (e :: es) X.env).map (·.2)=assign e X.env :: (assignEach es X.env).map (·.2):=by rfl):pS X (e :: es) (Ra t u):=by
 intro pins s σ H vs us Q I r h;obtain⟨v,vr,e1,h⟩:=h;subst e1;cases r with
 |cons r rr=>
  rw[hs];refine assignInOrder_cons (bC (h1 pins s σ H _ _ _ I r h) λ_ s1 ⟨σ1,H1,I1,q1⟩=>?_);exact h2 pins s1 σ1 H1 _ _ Q I1 rr q1
noncomputable def Vg(K:PySem.W.Frag)(n:Nat)(t:ur):TG:=λv σ H Q=>∃a xs,v=.ref a/\dJ K H a xs/\xs.length=n/\t xs σ H Q
def Mg{es:List Expr}{k:Nat}{t:ur}{n:Nat}(hc:X.calm=true)(h:pS X es t)
  (hn:(assignEach es X.env).length=n:=by rfl) (hst:(assignEach es X.env).findIdx? (·.1)=none:=by rfl):PG X (.Tuple es k pos) (Vg X.K n t):=by
 intro pins s σ H v u Q I r hw;obtain⟨a,xs,e1,hq,hl,hw⟩:=hw;subst e1;cases r;obtain⟨its,rv,ht,hz⟩:=I.tuple hq;refine assign_Tuple_tuple (I.ok.hd hc) ht (by simp[hn,<-hl,rv.length]) hst λh' hx=>?_;have I1:Inv X pins σ H { s with heap:=h' }:=I.kept (t':=s.toks) λb o e=>hx b o (aah (V3 e)) e;exact h pins _ σ H xs _ Q I1 (by simpa using rv) hw
noncomputable def Vh(to ti:TE)(t:EO):TG:=λv σ H Q=>to σ H λo H1=>ti σ H1 λi H2=>t o i v H2 λH3=>Q σ H3
def Mh{o i:Expr}{to ti:TE}{t:EO}(ho:PE X o to)(hi:PE X i ti)(hs:Mf X t)
  (ha:∀v,assign (.Subscript o i pos) X.env v=(do
   let ov <-holding [v] (eval o X.env)
   let iv <-holding [v,ov] (eval i X.env)
   standAt pos
   holding [v,ov,iv] (setItem ov iv v)
   release [v,ov,iv] []):=by intro _;rfl):PG X (.Subscript o i pos) (Vh to ti t):=by
 intro pins s σ H v u Q I r h;rw[ha];refine eZ (aaM (bC (ho pins s σ H _ I h) λov s1 ⟨x,H1,I1,r1,q1⟩=>?_));refine eZ (aaM (bC (hi pins s1 σ H1 _ I1 q1) λiv s2 ⟨y,H2,I2,r2,q2⟩=>?_));refine eZ (wpAny_standAt (eZ (aaM (bC (hs pins s2 σ H2 x y v ov iv u _ I2 r1 r2 r q2) λ_ s3 ⟨H3,I3,q3⟩=>?_))));exact wpAny_release ⟨σ,H3,I3,q3⟩
noncomputable def Mi(te:TE)(g:TG):TS:=λD σ H=>te σ H λx H1=>g x σ H1 D.nx
def Ce{tg e:Expr}{te:TE}{g:TG}(he:PE X e te)(hg:PG X tg g)(hs:swapsWithSole [tg] e pos.line X.env=pure false:=by rfl)(hw:swappedStores [tg] e X.env=pure none:=by rfl)
  (h1:(assignEach [tg] X.env).map (·.2)=[assign tg X.env]:=by rfl):PS X (.Assign [tg] e pos) (Mi te g):=by
 intro pins s σ H D I h;refine wpAny_Assign_stores (bC (he pins s σ H _ I h) λv s1 ⟨x,H1,I1,r1,q1⟩=>?_) hs hw;rw[h1];exact bC (hg pins s1 σ H1 x v _ I1 r1 q1) λ_ s2 q=>q
def qR{i:Nat}{x:Str}{e:Expr}{te:TE}{pos':Pos}(hN:X.N.Nodup)(hi:X.N[i]?=some x)(hx:Loc X.env.scope x)(he:PE X e te)(hs:swapsWith e (some (.Name x pos')) pos.line X.env=pure false:=by rfl)(hf:X.fn x=true\/X.env.scope.names.lookup x=some .local:=by first|exact .inl rfl|exact .inr rfl|assumption) :
  PS X (.Assign [.Name x pos'] e pos) (Mi te (G9 i)):=by
 intro pins s σ H D I h;refine wpAny_Assign_Name (bC (he pins s σ H _ I h) λv s1 ⟨y,H1,I1,r1,q1⟩=>?_) hs;exact qg I1 hN hi hx r1 (λs2 I2=>⟨_,H1,I2,q1⟩) hf
end
section
variable{X:Cx}{pos:Pos}
noncomputable def Mj(c:TT)(tb:TS):TS:=λD σ H=>∃W:Nat->St->Hp->Prop,(∃m,W m σ H)/\∀m σ H,W m σ H->
 c σ H λb H1=>if b=true then ∃N:St->Hp->Prop,(∀σ' H',N σ' H'->∃m',m'<m/\W m' σ' H')/\tb { D with nx:=N,ct:=N,bk:=D.nx } σ H1 else D.nx σ H1
def ES{c:Expr}{body:List Stmt}{tc:TT}{tb:TS}(hp:PassesOwn (model X.prog X.w) X.A X.env X.xe)(hc:PT X c tc)(hb:fD X body tb):PS X (.While c body [] pos) (Mj tc tb):=by
 intro pins s σ H D I h;obtain⟨W,⟨m0,w0⟩,turn⟩:=h;refine wpAny_While (codeAny_whileLoop (λn s'=>∃σ' H',Inv X pins σ' H' s'/\W n σ' H') ?_ m0 ⟨σ,H,I,w0⟩);rintro n s1 ⟨σ1,H1,I1,w1⟩;refine aba hp (bC (hc pins s1 σ1 H1 _ I1 (turn n σ1 H1 w1)) λb s2 ⟨H2,I2,q2⟩=>?_);cases b with
 |true=>
  obtain⟨N,hN,q2⟩:=q2;rw[mD rfl];refine aba hp (bC (hb pins s2 σ1 H2 _ I2 q2) λf s3 q3=>?_);cases f with
  |next=>
   obtain⟨σ3,H3,I3,n3⟩:=q3;obtain⟨m',hm,w3⟩:=hN σ3 H3 n3;exact⟨m',hm,σ3,H3,I3,w3⟩
  |cont=>
   obtain⟨σ3,H3,I3,n3⟩:=q3;obtain⟨m',hm,w3⟩:=hN σ3 H3 n3;exact⟨m',hm,σ3,H3,I3,w3⟩
  |brk=>exact q3
  |ret v=>exact q3
 |false=>
  rw[Yv aau];exact abx ⟨σ1,H2,I2,q2⟩
end
structure It where
 go:Nat->Hp->Prop
 Hf:Nat->Hp->V->Hp->Prop
 stop:Nat->Hp->Prop
noncomputable def gX(X:Cx)(pins:List (Addr×Obj))(H:Hp)(b:Addr):Prop:=
 H b=none/\b≠X.env.locals/\b∉X.fs/\(b∈X.ex\/X.s₀.heap.objs.size<=b)/\(∀x c,X.env.cells.lookup x=some c->c≠b)/\∀p∈X.pn++pins,p.1≠b
def Inv.Aw{X:Cx}{pins:List (Addr×Obj)}{σ:St}{H H':Hp}{s:Shared}{b:Addr}(I:Inv X pins σ H s)(hb:s.heap.objs.size<=b)(hn:H' b=none):gX X pins H' b:=by
 refine⟨hn,acP (xT I.lt hb),I.U7 hb,.inr (aaf I.sz hb),λx c e z=>?_,λp hp z=>?_⟩
 .obtain⟨v,q⟩:=I.cell x c e;exact absurd (xT q.lt (by rw[z];exact hb)) (aaK _)
 .exact absurd (xT (V3 (I.pin p hp).1) (by rw[z];exact hb)) (aaK _)
structure Turn(P:Program)(w:World)(K:PySem.W.Frag)(tg:Expr)(J:It)(fp:List Addr)(it:Addr)(tn:Nat->Heap->Prop):Prop where
 mem:it∈fp
 obj:∀i h,tn i h->∀b∈fp,∃o,h.get? b=some o/\∀v,o.data≠.cell v
 keep:∀i h h',tn i h->(∀b∈fp,∀o,h.get? b=some o->h'.get? b=some o)->tn i h'
 item:∀(X:Cx),X.prog=P->X.w=w->X.K=K->X.calm=true->∀(i:Nat) (pins:List (Addr×Obj)) (s:Shared) (σ:St) (H:Hp) (E:Value->Shared->Prop),Inv X pins σ H s->(∀b∈fp,gX X pins H b)->tn i s.heap->J.go i H->
  wpAny (model P w) X.A (pyNext (.ref it)) (λr s1=>∃u,r=some u/\
   wpAny (model P w) X.A (letOwnedTupleGo tg (.ref it) u) (λ_ s2=>∃x H',Inv X pins σ H' s2/\RelV x u/\J.Hf i H x H'/\tn (i+1) s2.heap/\∀b∈fp,H' b=none) E s1) E s
 done:∀(X:Cx),X.prog=P->X.w=w->X.K=K->X.calm=true->∀(i:Nat) (pins:List (Addr×Obj)) (s:Shared) (σ:St) (H:Hp) (E:Value->Shared->Prop),Inv X pins σ H s->(∀b∈fp,gX X pins H b)->tn i s.heap->J.stop i H->
  wpAny (model P w) X.A (pyNext (.ref it)) (λr s1=>r=none/\Inv X pins σ H s1) E s
 self:∀(A:Around) (i:Nat) (s:Shared) (Q:Value->Shared->Prop) (E:Value->Shared->Prop),tn i s.heap->Q (.ref it) s->wpAny (model P w) A (pyIter (.ref it)) Q E s
abbrev TI:=St->Hp->(It->Hp->Prop)->Prop
noncomputable def T6(X:Cx)(pins:List (Addr×Obj))(σ:St)(tg:Expr)(R:It->Hp->Prop)(itv:Value)(s2:Shared):Prop:=
 ∃(it:Addr) (fp:List Addr) (tn:Nat->Heap->Prop) (J:It) (H':Hp),itv=.ref it/\Inv X pins σ H' s2/\Turn X.prog X.w X.K tg J fp it tn/\tn 0 s2.heap/\(∀b∈fp,gX X pins H' b)/\R J H'
noncomputable def PI(X:Cx)(tg iter:Expr)(wi:TI):Prop:=
 ∀(pins:List (Addr×Obj)) (s:Shared) (σ:St) (H:Hp) (R:It->Hp->Prop),Inv X pins σ H s->wi σ H R->
  wpAny (model X.prog X.w) X.A (eval iter X.env) (λv s1=>wpAny (model X.prog X.w) X.A (pyIter v) (T6 X pins σ tg R) X.xe s1) X.xe s
def Ax{M:Model}{A:Around}{E:Value->Shared->Prop}{s:Shared}{tg:Expr}{it:Addr}{u:Value}{o:Obj}{n:String}{vs:Array Value}{Q:Unit->Shared->Prop}(ho:s.heap.get? it=some o)(hc:o.cls=.type n)(hd:o.data=.fields vs)
    (hn:["enumerate","zip","dict_itemiterator","dict_reverseitemiterator","odict_iterator","itertools.zip_longest","itertools.pairwise"].contains n=false) (hQ:Q () s):wpAny M A (letOwnedTupleGo tg (.ref it) u) Q E s:=by
  unfold letOwnedTupleGo;cases tg<;>first
    |exact uZ hQ
    | (cases u<;>first
        |exact uZ hQ
        | (refine eZ (wpAny_load ho ?_)
           rw[hc,hd];show wpAny M A (if (["enumerate","zip","dict_itemiterator","dict_reverseitemiterator","odict_iterator","itertools.zip_longest","itertools.pairwise"].contains n&&vs[0]?==some (rawInt _))=true then _ else _) Q E s;rw[Yv (by intro h;rw[hn,Bool.false_and]at h;cases h)];exact uZ hQ))
noncomputable def T7(K:PySem.W.Frag)(a:Addr):It:=
 ⟨λi H=>∃xs x,eL K H a xs/\xs[i]?=some x,λi H x H'=>H'=H/\∀xs,eL K H a xs->xs[i]?=some x,λi H=>∃xs,eL K H a xs/\xs.length<=i⟩
noncomputable def T8(K:PySem.W.Frag)(a:Addr):It:=
 ⟨λi H=>∃xs x,dJ K H a xs/\xs[i]?=some x,λi H x H'=>H'=H/\∀xs,dJ K H a xs->xs[i]?=some x,λi H=>∃xs,dJ K H a xs/\xs.length<=i⟩
noncomputable def Hg(lo:Int)(n:Nat):It:=⟨λi _=>i<n,λi H x H'=>H'=H/\x=.int (lo+i),λi _=>n<=i⟩
def Cf{P:Program}{w:World}{K:PySem.W.Frag}{tg:Expr}(a it:Addr):Turn P w K tg (T7 K a) [it] it (λi h=>h.IsListIter it a i) where
 mem:=by simp
 obj:=λi h st b hb=>by
  have e:b=it:=by simpa using hb
  subst e;obtain⟨o,e,c,d⟩:=st;exact⟨o,e,λv z=>by rw[d]at z;cases z⟩
 keep:=λi h h' st k=>st.at λo e=>k it (by simp) o e
 item:=by
  intro X hP hw hK hc i pins s σ H E I hf st hg;subst hP hw hK;obtain⟨xs,x,hq,hx⟩:=hg;obtain⟨its,rv,p,hz⟩:=I.list hq;obtain⟨u,hu,ru⟩:=rv.get hx;obtain⟨f0,f1,f2,f3,f4,f5⟩:=hf it (by simp);refine wpAny_pyNext_list_item st p.isList (x:=u) (by simpa using hu) λh' st' sb=>?_;have I1:Inv X pins σ H { s with heap:=h' }:=I.turned (t':=s.toks) (λb o hb e=>(sb.2 b hb).trans e) f0 f1 f3 f4 f5;obtain⟨o,e,c,d⟩:=id st';exact⟨u,rfl,Ax (s:={ s with heap:=h' }) e c d (by decide) ⟨x,H,I1,ru,⟨rfl,λys hy=>by rw[I.vH hy hq];exact hx⟩,st',λb hb=>(hf b hb).1⟩⟩
 done:=by
  intro X hP hw hK hc i pins s σ H E I hf st hg;subst hP hw hK;obtain⟨xs,hq,hx⟩:=hg;obtain⟨its,rv,p,hz⟩:=I.list hq;obtain⟨f0,f1,f2,f3,f4,f5⟩:=hf it (by simp);have hl:=rv.length;exact wpAny_pyNext_list_end (I.ok.hd hc) st p.isList (by simp;omega) λh' eb=>⟨rfl,I.turned (t':=s.toks) (λb o hb e=>eb b o hb e) f0 f1 f3 f4 f5⟩
 self:=λ_ _ _ _ _ st h=>wpAny_pyIter_listiter st h
def Ay{P:Program}{w:World}{K:PySem.W.Frag}{tg:Expr}(a it:Addr):Turn P w K tg (T8 K a) [it] it (λi h=>h.IsTupleIter it a i) where
 mem:=by simp
 obj:=λi h st b hb=>by
  have e:b=it:=by simpa using hb
  subst e;obtain⟨o,e,c,d⟩:=st;exact⟨o,e,λv z=>by rw[d]at z;cases z⟩
 keep:=λi h h' st k=>st.at λo e=>k it (by simp) o e
 item:=by
  intro X hP hw hK hc i pins s σ H E I hf st hg;subst hP hw hK;obtain⟨xs,x,hq,hx⟩:=hg;obtain⟨its,rv,p,hz⟩:=I.tuple hq;obtain⟨u,hu,ru⟩:=rv.get hx;obtain⟨f0,f1,f2,f3,f4,f5⟩:=hf it (by simp);refine wpAny_pyNext_tuple_item st (show s.heap.IsTuple a its.toArray from p) (x:=u) (by simpa using hu) λh' st' sb=>?_;have I1:Inv X pins σ H { s with heap:=h' }:=I.turned (t':=s.toks) (λb o hb e=>(sb.2 b hb).trans e) f0 f1 f3 f4 f5;obtain⟨o,e,c,d⟩:=id st';exact⟨u,rfl,Ax (s:={ s with heap:=h' }) e c d (by decide) ⟨x,H,I1,ru,⟨rfl,λys hy=>by rw[I.nE hy hq];exact hx⟩,st',λb hb=>(hf b hb).1⟩⟩
 done:=by
  intro X hP hw hK hc i pins s σ H E I hf st hg;subst hP hw hK;obtain⟨xs,hq,hx⟩:=hg;obtain⟨its,rv,p,hz⟩:=I.tuple hq;obtain⟨f0,f1,f2,f3,f4,f5⟩:=hf it (by simp);have hl:=rv.length;exact wpAny_pyNext_tuple_end (I.ok.hd hc) st (show s.heap.IsTuple a its.toArray from p) (by simp;omega) λh' eb=>⟨rfl,I.turned (t':=s.toks) (λb o hb e=>eb b o hb e) f0 f1 f3 f4 f5⟩
 self:=λ_ _ _ _ _ st h=>wpAny_pyIter_tupleiter st h
def Az{P:Program}{w:World}{K:PySem.W.Frag}{tg:Expr}(it:Addr)(lo:Int)(n:Nat):Turn P w K tg (Hg lo n) [it] it (λi h=>IsRangeIter h it (lo+(i:Nat)*1) ((n:Int) - (i:Nat)) 1) where
 mem:=by simp
 obj:=λi h st b hb=>by
  have e:b=it:=by simpa using hb
  subst e;exact⟨_,st,λv z=>by
   have z':Data.fields _=Data.cell v:=z;cases z'⟩
 keep:=λi h h' st k=>k it (by simp) _ st
 item:=by
  intro X hP hw hK hc i pins s σ H E I hf st hg;subst hP hw hK;obtain⟨f0,f1,f2,f3,f4,f5⟩:=hf it (by simp);have W:=Walks.range (prog:=X.prog) (w:=X.w) (I.ok.hd hc) it lo 1 n;refine W.item i s _ _ hg st λv h' tk hv st' kk=>?_;obtain⟨t,rfl⟩:=hv;have I1:Inv X pins σ H { s with heap:=h',toks:=tk }:=I.turned (λb o hb e=>kk b o (by simpa using hb) e) f0 f1 f3 f4 f5;refine⟨_,rfl,Ax (s:={ s with heap:=h',toks:=tk }) (n:="range_iterator") st' rfl rfl (by decide) ⟨.int (lo+i),H,I1,⟨t,?_⟩,⟨rfl,rfl⟩,st',λb hb=>(hf b hb).1⟩⟩;rw[Int.mul_one]
 done:=by
  intro X hP hw hK hc i pins s σ H E I hf st hg;subst hP hw hK;obtain⟨f0,f1,f2,f3,f4,f5⟩:=hf it (by simp);exact wpAny_pyNext_range_end (I.ok.hd hc) st (by have:n<=i:=hg;omega) λh' eb=>⟨rfl,I.turned (t':=s.toks) (λb o hb e=>eb b o hb e) f0 f1 f3 f4 f5⟩
 self:=λ_ _ _ _ _ st h=>wpAny_pyIter_rangeiter st h
section
variable{X:Cx}{tg:Expr}
def ET{pins:List (Addr×Obj)}{σ:St}{H:Hp}{s:Shared}{R:It->Hp->Prop}{E:Value->Shared->Prop}{lo hi:Int}{t u v:Tok}{tk:Nat}(I:Inv X pins σ H s)(h1:-(2 ^ 62)<=lo)(h2:lo<2 ^ 62)(h3:-(2 ^ 62)<=hi)(h4:hi<2 ^ 62)
  (q:R (Hg lo (hi - lo).toNat) H):wpAny (model X.prog X.w) X.A (pyIter (.ref s.heap.objs.size)) (T6 X pins σ tg R) E { s with heap:=s.heap.push { cls:=.type "range",data:=.fields #[.int lo t,.int hi u,.int 1 v]},toks:=tk }:=by
 refine wpAny_pyIter_range (IsRange.new ..) (small_one h1 h2 h3 h4) ?_;have I1:Inv X pins σ H { s with heap:=s.heap.push { cls:=.type "range",data:=.fields #[.int lo t,.int hi u,.int 1 v]},toks:=tk }:=I.kept λb o e=>vz _ e;refine⟨(s.heap.push { cls:=.type "range",data:=.fields #[.int lo t,.int hi u,.int 1 v]}).objs.size,[(s.heap.push { cls:=.type "range",data:=.fields #[.int lo t,.int hi u,.int 1 v]}).objs.size],_,_,H,rfl,
  I1.kept (t':=tk) λb o e=>vz _ e,Az _ lo (hi - lo).toNat,?_,λb hb=>?_,q⟩
 .have e1:lo+((0:Nat):Int)*1=lo:=by simp
  have e2:(((hi - lo).toNat:Nat):Int) - ((0:Nat):Int)=Builtin.Range.rangeSize lo hi 1:=by rw[rangeSize_one];split<;>omega
  show IsRangeIter _ _ (lo+((0:Nat):Int)*1) ((((hi - lo).toNat:Nat):Int) - ((0:Nat):Int)) 1;rw[e1,e2];exact aac _ rfl
 .have e:b=(s.heap.push { cls:=.type "range",data:=.fields #[.int lo t,.int hi u,.int 1 v]}).objs.size:=by simpa using hb
  subst e;exact I1.Aw (Ad _) (I1.hok.fresh (Ad _))
noncomputable def Rb(ta:TA):TI:=λσ H R=>ta σ H λvs H1=>∃j:Int,vs=[.int j]/\-(2 ^ 62)<=j/\j<2 ^ 62/\R (Hg 0 j.toNat) H1
def Cg {a:Expr}{ta:TA}{p pos:Pos}(hg:Gl X "range") (hm:X.mg "range" = none) (ha:PA X [a] ta) (hs:starEach [a] X.env=[(false,eval a X.env)]:=by rfl):PI X tg (.Call (.Name "range" p) [a] [] pos) (Rb ta):=by
 intro pins s σ H R I h;refine Call_ (iV I hg hm boot_range (aax (bC (ha pos pins s σ H _ I h) λus s1 ⟨vs,H1,I1,r1,q1⟩=>?_) hs rfl));obtain⟨j,e,q1,q2,q⟩:=q1;subst e;cases r1 with
 |cons r rr=>
  cases rr;obtain⟨t,rfl⟩:=r;exact call_range_1 (ET I1 (by omega) (by omega) q1 q2 (by simpa using q))
noncomputable def Vi(wi:TI)(g:TG)(tb:TS):TS:=λD σ H=>wi σ H λJ H1=>∃W:Nat->Nat->St->Hp->Prop,(∃m,W 0 m σ H1)/\∀i m σ H,W i m σ H->
 (J.stop i H/\D.nx σ H)\/(J.go i H/\∃N:St->Hp->Prop,(∀σ' H',N σ' H'->∃m',m'<m/\W (i+1) m' σ' H')/\∀x H',J.Hf i H x H'->g x σ H' λσ2 H2=>tb { D with nx:=N,ct:=N,bk:=D.nx } σ2 H2)
noncomputable def nF(fp:List Addr)(h:Heap):List (Addr×Obj):=fp.filterMap λb=>(h.get? b).map λo=>(b,o)
def jY{fp:List Addr}{h:Heap}{b:Addr}{o:Obj}(hb:b∈fp)(e:h.get? b=some o):(b,o)∈nF fp h:=List.mem_filterMap.mpr ⟨b,hb,by rw[e];rfl⟩
def Ci{fp:List Addr}{h:Heap}{p:Addr×Obj}(hp:p∈nF fp h):p.1∈fp/\h.get? p.1=some p.2:=by
 obtain⟨b,hb,e⟩:=List.mem_filterMap.mp hp;cases q:h.get? b with
 |none=>rw[q]at e;cases e
 |some o=>
  rw[q]at e;have e':(b,o)=p:=PV e;subst e';exact⟨hb,q⟩
def Inv.pinned{pins:List (Addr×Obj)}{σ:St}{H:Hp}{s:Shared}{fp:List Addr}(I:Inv X pins σ H s)(hf:∀b∈fp,gX X pins H b)(ho:∀b∈fp,∃o,s.heap.get? b=some o/\∀v,o.data≠.cell v):Inv X (pins++nF fp s.heap) σ H s:=
 I.yO λp hp=>(List.mem_append.mp hp).elim (λz=>I.pin p (aat _ z)) λz=>by
  obtain⟨hb,e⟩:=Ci z;obtain⟨f0,f1,f2,_⟩:=hf p.1 hb;obtain⟨o,e',d⟩:=ho p.1 hb;rw[e]at e';cases e';exact⟨e,f0,f1,f2,d⟩
def Inv.mL{pins pl:List (Addr×Obj)}{σ:St}{H:Hp}{s:Shared}(I:Inv X (pins++pl) σ H s):Inv X pins σ H s:=I.yO λp hp=>I.pin p (aat _ (acI _ hp))
def Mk{iter:Expr}{body:List Stmt}{wi:TI}{g:TG}{tb:TS}{pos:Pos}(hp:PassesOwn (model X.prog X.w) X.A X.env X.xe)(hc:X.calm=true)(hi:PI X tg iter wi)(hg:PG X tg g)(hb:fD X body tb)
  (hs:∀x,foldedSetIterable iter X.env x=pure x:=by intro _;rfl):PS X (.For tg iter body [] pos) (Vi wi g tb):=by
 intro pins s σ H D I h;refine wpAny_For (bC (hi pins s σ H _ I h) λv s1 h1=>bC h1 λitv s2 h2=>?_) hs;obtain⟨it,fp,tn,J,H2,e,I2,T,st2,f2,W,⟨m0,w0⟩,turn⟩:=h2;subst e;have mP:∀{H':Hp},(∀b∈fp,H' b=none)->∀b∈fp,gX X pins H' b:=λhn b hb=>⟨hn b hb,(f2 b hb).2⟩
 refine codeAny_forLoop_any (λn s'=>∃i σ' H',Inv X pins σ' H' s'/\tn i s'.heap/\(∀b∈fp,H' b=none)/\W i n σ' H') ?_ m0 ⟨0,σ,H2,I2,st2,λb hb=>(f2 b hb).1,w0⟩;rintro n s3 ⟨i,σ3,H3,I3,st3,bR,w3⟩;rcases turn i n σ3 H3 w3 with ⟨stop,qn⟩|⟨go,N,hN,step⟩
 .refine aba hp (bC (T.done X rfl rfl rfl hc i pins s3 σ3 H3 X.xe I3 (mP bR) st3 stop) λr s4 ⟨hr,I4⟩=>?_);subst hr;exact abx ⟨σ3,H3,I4,qn⟩
 .refine aba hp (bC (T.item X rfl rfl rfl hc i pins s3 σ3 H3 X.xe I3 (mP bR) st3 go) λr s4 ⟨u,hr,h4⟩=>?_);subst hr;refine aba hp (bC h4 λ_ s5 ⟨x,H5,I5,r5,y5,yS,uu⟩=>?_);have WX:=I5.pinned (mP uu) (T.obj _ _ yS);refine aba hp (bC (hg _ s5 σ3 H5 x u _ WX r5 (step x H5 y5)) λ_ s6 ⟨WY,H6,I6,q6⟩=>?_);refine aba hp (bC (hb _ s6 WY H6 _ I6 q6) λf s7 q7=>?_);have again:∀{nG:St} {H7:Hp},Inv X (pins++nF fp s5.heap) nG H7 s7->N nG H7->∃m,m<n/\∃i σ' H',Inv X pins σ' H' s7/\tn i s7.heap/\(∀b∈fp,H' b=none)/\W i m σ' H':=λ{nG H7} I7 n7=>by
   obtain⟨m',hm,w7⟩:=hN nG H7 n7;refine⟨m',hm,i+1,nG,H7,I7.mL,T.keep _ _ _ yS λb hb o e=>(I7.pin (b,o) (aat _ (aat _ (jY hb e)))).1,λb hb=>?_,w7⟩;obtain⟨o,e,d⟩:=T.obj _ _ yS b hb;exact(I7.pin (b,o) (aat _ (aat _ (jY hb e)))).2.1
  cases f with
  |next=>obtain⟨nG,H7,I7,n7⟩:=q7;exact again I7 n7
  |cont=>obtain⟨nG,H7,I7,n7⟩:=q7;exact again I7 n7
  |brk=>obtain⟨nG,H7,I7,q7⟩:=q7;exact⟨nG,H7,I7.mL,q7⟩
  |ret v=>obtain⟨x7,nG,H7,I7,r7,q7⟩:=q7;exact⟨x7,nG,H7,I7.mL,r7,q7⟩
end
abbrev R2:=V->V->Hp->VK->Prop
noncomputable def ek(X:Cx)(f:Value->Value->Sem Value)(r:R2):Prop:=
 ∀(pins:List (Addr×Obj)) (s:Shared) (σ:St) (H:Hp) (x y:V) (v u:Value) (Q:VK),Inv X pins σ H s->RelV x v->RelV y u->r x y H Q->
  wpAny (model X.prog X.w) X.A (f v u) (EP X pins σ Q) X.xe s
noncomputable def Ml(X:Cx)(f:Value->Sem Value)(r:V->Hp->VK->Prop):Prop:=
 ∀(pins:List (Addr×Obj)) (s:Shared) (σ:St) (H:Hp) (x:V) (v:Value) (Q:VK),Inv X pins σ H s->RelV x v->r x H Q->
  wpAny (model X.prog X.w) X.A (f v) (EP X pins σ Q) X.xe s
noncomputable def fy(X:Cx)(f:Value)(r:List V->Hp->VK->Prop):Prop:=
 ∀(pins:List (Addr×Obj)) (s:Shared) (σ:St) (H:Hp) (xs:List V) (us:List Value) (Q:VK),Inv X pins σ H s->Vals xs us->r xs H Q->
  wpAny (model X.prog X.w) X.A (call f us) (EP X pins σ Q) X.xe s
noncomputable def Vj(X:Cx)(r:V->Hp->(Bool->Hp->Prop)->Prop):Prop:=
 ∀(pins:List (Addr×Obj)) (s:Shared) (σ:St) (H:Hp) (x:V) (v:Value) (Q:Bool->Hp->Prop),Inv X pins σ H s->RelV x v->r x H Q->
  wpAny (model X.prog X.w) X.A (truthy v) (TP X pins σ Q) X.xe s
noncomputable def Cj(r:R2)(ta tb:TE):TE:=λσ H Q=>ta σ H λx H1=>tb σ H1 λy H2=>r x y H2 Q
noncomputable def WZ(r:V->Hp->VK->Prop)(ta:TE):TE:=λσ H Q=>ta σ H λx H1=>r x H1 Q
noncomputable def rI(C:Int->Int->Prop)(g:Int->Int->V):R2:=λx y H Q=>∃i j,x=.int i/\y=.int j/\C i j/\Q (g i j) H
noncomputable def vJ(g:Int->Int->V):R2:=λx y H Q=>∃i j,x=.int i/\y=.int j/\Q (g i j) H
noncomputable def rU(g:Int->V):V->Hp->VK->Prop:=λx H Q=>∃i,x=.int i/\Q (g i) H
section
variable{X:Cx}{a b:Expr}{ta tb:TE}{pos:Pos}
def AA(ha:PE X a ta)(hb:PE X b tb){pins:List (Addr×Obj)}{s:Shared}{σ:St}{H:Hp}{R:V->V->Hp->Prop}(I:Inv X pins σ H s)
  (h:ta σ H λx H1=>tb σ H1 λy H2=>R x y H2) {Q:Value->Shared->Prop} {f:Value->Value->Sem Value}
  (hf:∀v u s2 x y H2,Inv X pins σ H2 s2->RelV x v->RelV y u->R x y H2->wpAny (model X.prog X.w) X.A (f v u) Q X.xe s2) :
  wpAny (model X.prog X.w) X.A (eval a X.env) (λv s₁=>wpAny (model X.prog X.w) X.A (eval b X.env) (λu s₂=>wpAny (model X.prog X.w) X.A (f v u) Q X.xe s₂) X.xe s₁) X.xe s:=by
 refine bC (ha pins s σ H _ I h) λv s1 ⟨x,H1,I1,r1,q1⟩=>?_;refine bC (hb pins s1 σ H1 _ I1 q1) λu s2 ⟨y,H2,I2,r2,q2⟩=>?_;exact hf v u s2 x y H2 I2 r1 r2 q2
def Hi{op:Operator}{r:R2}(ho:ek X (binaryOp op) r)(ha:PE X a ta)(hb:PE X b tb):PE X (.BinOp a op b pos) (Cj r ta tb):=by
 intro pins s σ H Q I h;exact wpAny_BinOp (AA ha hb I h λv u s2 x y H2 I2 rx ry q=>ho pins s2 σ H2 x y v u Q I2 rx ry q)
def Rc{op:UnaryOp}{r:V->Hp->VK->Prop}(ho:Ml X (unaryOp op) r)(ha:PE X a ta):PE X (.UnaryOp op a pos) (WZ r ta):=by
 intro pins s σ H Q I h;exact UnaryOp_ (bC (ha pins s σ H _ I h) λv s1 ⟨x,H1,I1,r1,q1⟩=>ho pins s1 σ H1 x v Q I1 r1 q1)
def Mm{f:Value->Value->Sem Value}{C:Int->Int->Prop}{g:Int->Int->Int}
  (rule:∀(i j:Int) (t u:Tok) (s:Shared) (Q:Value->Shared->Prop) (E:Value->Shared->Prop),C i j->Q (.int (g i j) s.toks) { s with toks:=s.toks+1 }->wpAny (model X.prog X.w) X.A (f (.int i t) (.int j u)) Q E s) :
  ek X f (rI C λi j=>.int (g i j)):=by
 intro pins s σ H x y v u Q I rx ry h;obtain⟨i,j,rfl,rfl,hc,q⟩:=h;obtain⟨t,rfl⟩:=rx;obtain⟨t',rfl⟩:=ry;exact rule i j t t' s _ _ hc ⟨.int (g i j),H,I.tok _,⟨_,rfl⟩,q⟩
def Mn{f:Value->Value->Sem Value}{g:Int->Int->Int}
  (rule:∀(i j:Int) (t u:Tok) (s:Shared) (Q:Value->Shared->Prop) (E:Value->Shared->Prop),Q (.int (g i j) s.toks) { s with toks:=s.toks+1 }->wpAny (model X.prog X.w) X.A (f (.int i t) (.int j u)) Q E s) :
  ek X f (vJ λi j=>.int (g i j)):=by
 intro pins s σ H x y v u Q I rx ry h;obtain⟨i,j,rfl,rfl,q⟩:=h;obtain⟨t,rfl⟩:=rx;obtain⟨t',rfl⟩:=ry;exact rule i j t t' s _ _ ⟨.int (g i j),H,I.tok _,⟨_,rfl⟩,q⟩
def Mp{f:Value->Value->Sem Value}{g:Int->Int->Bool}
  (rule:∀(i j:Int) (t u:Tok) (s:Shared) (Q:Value->Shared->Prop) (E:Value->Shared->Prop),Q (.bool (g i j)) s->wpAny (model X.prog X.w) X.A (f (.int i t) (.int j u)) Q E s) :
  ek X f (vJ λi j=>.bl (g i j)):=by
 intro pins s σ H x y v u Q I rx ry h;obtain⟨i,j,rfl,rfl,q⟩:=h;obtain⟨t,rfl⟩:=rx;obtain⟨t',rfl⟩:=ry;exact rule i j t t' s _ _ ⟨.bl (g i j),H,I,rfl,q⟩
noncomputable def Vk(i j:Int):Prop:=0<j/\j<1073741824
noncomputable def EU(i j:Int):Prop:=(-(2 ^ 64)<i/\i<2 ^ 64)\/(-(2 ^ 64)<j/\j<2 ^ 64)
def EU.ok{i j:Int}(h:EU i j):IntMulOk i j:=by
 rcases h with ⟨h1,h2⟩|⟨h1,h2⟩
 .exact .of_left (intBits_le_64 h1 h2)
 .exact .of_right (intBits_le_64 h1 h2)
def Mq:ek X (binaryOp .Add) (vJ λi j=>.int (i+j)):=Mn λ_ _ _ _ _ _ _ q=>add_int q
def Mr:ek X (binaryOp .Sub) (vJ λi j=>.int (i - j)):=Mn λ_ _ _ _ _ _ _ q=>sub_int q
def Ms:ek X (binaryOp .Mult) (rI EU λi j=>.int (i*j)):=Mm λ_ _ _ _ _ _ _ hc q=>mul_int q hc.ok
def Js:ek X (binaryOp .FloorDiv) (rI Vk λi j=>.int (i / j)):=Mm λi j _ _ _ _ _ hc q=>by
 have h1:(0:Int)<j:=hc.1;have h2:j<1073741824:=hc.2;exact floordiv_int (by omega) (by rw[Int.fdiv_eq_ediv_of_nonneg i (by omega)];exact q) (.inl (PyProof.noPylong_small (by omega)))
def Mt:ek X (binaryOp .Mod) (rI (λ_ j=>0<j) λi j=>.int (i % j)):=Mm λi j _ _ _ _ _ hc q=>by
 have h1:(0:Int)<j:=hc;exact mod_int' (by omega) (by rw[Int.fmod_eq_emod_of_nonneg i (by omega)];exact q)
def W0{f:Value->Sem Value}{g:Int->Int}
  (rule:∀(i:Int) (t:Tok) (s:Shared) (Q:Value->Shared->Prop) (E:Value->Shared->Prop),Q (.int (g i) s.toks) { s with toks:=s.toks+1 }->wpAny (model X.prog X.w) X.A (f (.int i t)) Q E s) :
  Ml X f (rU λi=>.int (g i)):=by
 intro pins s σ H x v Q I rx h;obtain⟨i,rfl,q⟩:=h;obtain⟨t,rfl⟩:=rx;exact rule i t s _ _ ⟨.int (g i),H,I.tok _,⟨_,rfl⟩,q⟩
def Mu:Ml X (unaryOp .USub) (rU λi=>.int (-i)):=W0 λ_ _ _ _ _ q=>neg_int q
end
noncomputable def Vl:V->V->Bool
 |.aU,.aU=>true|.aU,.int _=>true|.int _,.aU=>true|.aU,.bl _=>true|.bl _,.aU=>true|.aU,.str _=>true|.str _,.aU=>true
 |.int _,.int _=>true|.bl _,.bl _=>true|.str _,.str _=>true|.nA _,.nA _=>true
 |.int _,.str _=>true|.str _,.int _=>true|.bl _,.str _=>true|.str _,.bl _=>true
 |_,_=>false
noncomputable def W2:R2:=λx y H Q=>Vl x y=true/\Q (.bl (!decide (x=y))) H
def Jt{i j:Int}:decide (V.int i=V.int j)=(i==j):=by
 rw[ab3];simp
def Mv{i j:Bool}:decide (V.bl i=V.bl j)=(i==j):=by
 rw[ab3];simp
def Ju{i j:Str}:decide (V.str i=V.str j)=(i==j):=by
 rw[ab3];simp
def Jv{i j:Array UInt8}:decide (V.nA i=V.nA j)=(i.toList==j.toList):=by
 rw[ab3];cases i;cases j;simp
section
variable{X:Cx}{a b c:Expr}{ta tb:TE}{pos:Pos}
def eB{pins:List (Addr×Obj)}{σ:St}{H:Hp}{s:Shared}{Q:VK}{k k':Bool}(I:Inv X pins σ H s)(q:Q (.bl k) H)(e:k=k'):EP X pins σ Q (.bool k') s:=by
 subst e;exact⟨.bl k,H,I,rfl,q⟩
def Rf:ek X (compareOp .NotEq) W2:=by
 intro pins s σ H x y v u Q I rx ry h;obtain⟨hs,q⟩:=h;cases x with
 |aU=>
  cases rx;cases y with
  |aU=>cases ry;exact PySem.EqNone.ne_none_none (eB I q (by simp))
  |bl j=>cases ry;exact PySem.EqNone.ne_none_bool (eB I q (by simp))
  |int j=>obtain⟨t',rfl⟩:=ry;exact PySem.EqNone.ne_none_int (eB I q (by simp))
  |str j=>obtain⟨t',rfl⟩:=ry;exact PySem.EqNone.ne_none_str (eB I q (by simp))
  |_=>exact absurd (show false=true from hs) aau
 |bl i=>
  cases rx;cases y with
  |aU=>cases ry;exact PySem.EqNone.ne_bool_none (eB I q (by simp))
  |bl j=>cases ry;exact ne_bool (eB I q (aab not Mv))
  |str j=>obtain⟨t',rfl⟩:=ry;exact PySem.EqMixed.ne_bool_str (eB I q (by simp))
  |_=>exact absurd (show false=true from hs) aau
 |int i=>
  obtain⟨t,rfl⟩:=rx;cases y with
  |aU=>cases ry;exact PySem.EqNone.ne_int_none (eB I q (by simp))
  |int j=>obtain⟨t',rfl⟩:=ry;exact ne_int (eB I q (aab not Jt))
  |str j=>obtain⟨t',rfl⟩:=ry;exact PySem.EqMixed.ne_int_str (eB I q (by simp))
  |_=>exact absurd (show false=true from hs) aau
 |str i=>
  obtain⟨t,rfl⟩:=rx;cases y with
  |aU=>cases ry;exact PySem.EqNone.ne_str_none (eB I q (by simp))
  |bl j=>cases ry;exact PySem.EqMixed.ne_str_bool (eB I q (by simp))
  |int j=>obtain⟨t',rfl⟩:=ry;exact PySem.EqMixed.ne_str_int (eB I q (by simp))
  |str j=>obtain⟨t',rfl⟩:=ry;exact ne_str (eB I q (aab not Ju))
  |_=>exact absurd (show false=true from hs) aau
 |nA i=>
  obtain⟨t,rfl⟩:=rx;cases y with
  |nA j=>obtain⟨t',rfl⟩:=ry;exact PySem.W.ne_bytes (eB I q (aab not Jv))
  |_=>exact absurd (show false=true from hs) aau
 |_=>cases y<;>exact absurd (show false=true from hs) aau
def Rg:ek X (compareOp .Lt) (vJ λi j=>.bl (decide (i<j))):=Mp λ_ _ _ _ _ _ _ q=>lt_int q
def Rh:ek X (compareOp .Gt) (vJ λi j=>.bl (decide (j<i))):=Mp λ_ _ _ _ _ _ _ q=>gt_int q
def jF(b:Expr){op:CmpOp}(h:op≠.In:=by decide)(h2:op≠.NotIn:=by decide):behindInMarks op b=false:=by
 have e1:(op==CmpOp.In)=false:=by cases op<;>first|rfl|exact absurd rfl h
 have e2:(op==CmpOp.NotIn)=false:=by cases op<;>first|rfl|exact absurd rfl h2
 cases b<;>simp[behindInMarks,e1,e2]
def Jw{op:CmpOp}{r:R2}(ho:ek X (compareOp op) r)(ha:PE X a ta)(hb:PE X b tb)(hm:behindInMarks op b=false):PE X (.Compare a [op] [b] pos) (Cj r ta tb):=by
 intro pins s σ H Q I h;exact wpAny_Compare1 (AA ha hb I h λv u s2 x y H2 I2 rx ry q=>ho pins s2 σ H2 x y v u Q I2 rx ry q) hm
noncomputable def Ri(t:TE):TT:=λσ H Q=>t σ H λx H'=>∃k,x=.bl k/\Q k H'
def yT{op:CmpOp}{r:R2}(ho:ek X (compareOp op) r)(ha:PE X a ta)(hb:PE X b tb)(hm:behindInMarks op b=false):PT X (.Compare a [op] [b] pos) (Ri (Cj r ta tb)):=by
 intro pins s σ H Q I h;refine wpAny_isTrue_Compare1 (bC (ha pins s σ H _ I h) λv s1 ⟨x,H1,I1,r1,q1⟩=>bC (hb pins s1 σ H1 _ I1 q1) λu s2 ⟨y,H2,I2,r2,q2⟩=>
  bC (ho pins s2 σ H2 x y v u _ I2 r1 r2 q2) λc s3 ⟨z,H3,I3,r3,k,e,q3⟩=>?_) hm
 subst e;cases r3;exact abL ⟨H3,I3,q3⟩
noncomputable def EV(K:PySem.W.Frag)(x:V)(H:Hp)(k:Bool):Prop:=
 match x with
 |.aU=>k=false
 |.bl b=>k=b
 |.int i=>k=(i != 0)
 |.str y=>y.length<=sizeLine/\k=((y.length:Int) != 0)
 |.nA y=>y.size<=sizeLine/\k=((y.size:Int) != 0)
 |.ref p=>(∃xs,eL K H p xs/\k = !xs.isEmpty)\/(∃xs,dJ K H p xs/\k = !xs.isEmpty)\/∃kvs,H p=some (.dK kvs)/\k = !kvs.isEmpty
 |_=>False
def AB{κ:Type}{kvs:List (κ×V)}{vs:List (κ×Value)}(r:KV kvs vs):(!vs.isEmpty) = !kvs.isEmpty:=by
 cases r<;>rfl
def qS{xs:List V}{its:List Value}(r:Vals xs its):(!its.toArray.isEmpty) = !xs.isEmpty:=by
 cases r<;>simp
def ki:(sizeLine:Nat)<2 ^ 63:=by rw[aaS];decide
def Mw:Vj X (λx H Q=>∃k,EV X.K x H k/\Q k H):=by
 intro pins s σ H x v Q I rx h;obtain⟨k,e,q⟩:=h;have hl:=ki;have hs:sizeLine=16777216:=aaS;cases x with
 |aU=>
  cases rx;have e':k=false:=e;subst e';exact truthy_none ⟨H,I,q⟩
 |bl b=>
  cases rx;have e':k=b:=e;subst e';exact abL ⟨H,I,q⟩
 |int i=>
  obtain⟨t,rfl⟩:=rx;have e':k=(i != 0):=e;subst e';exact PySem.P.truthy_int ⟨H,I,q⟩
 |str y=>
  obtain⟨t,rfl⟩:=rx;obtain⟨hy,e'⟩:y.length<=sizeLine/\k=((y.length:Int) != 0):=e;subst e';exact PySem.P.truthy_str (by omega) ⟨H,I.tok _,q⟩
 |nA y=>
  obtain⟨t,rfl⟩:=rx;obtain⟨hy,e'⟩:y.size<=sizeLine/\k=((y.size:Int) != 0):=e;subst e';exact PySem.W.truthy_bytes (by omega) ⟨H,I.tok _,q⟩
 |ref p=>
  cases rx;have e':(∃xs,eL X.K H p xs/\k = !xs.isEmpty)\/(∃xs,dJ X.K H p xs/\k = !xs.isEmpty)\/∃kvs,H p=some (.dK kvs)/\k = !kvs.isEmpty:=e;rcases e' with ⟨xs,hx,e'⟩|⟨xs,hx,e'⟩|⟨kvs,hx,e'⟩
  .subst e';obtain⟨its,r,pl,hz⟩:=I.list hx;have hlen:=r.length;exact wpAny_truthy_list pl.isList (by simp only[iy];omega) ⟨H,I.tok _,by rw[qS r];exact q⟩
  .subst e';obtain⟨its,r,pl,hz⟩:=I.tuple hx;have hlen:=r.length;exact truthy_tuple pl (by simp only[iy];omega) ⟨H,I.tok _,by rw[qS r];exact q⟩
  .subst e';obtain⟨hz,hS,vs,r,m⟩:kvs.length<=sizeLine/\(p==sysModules)=false/\∃vs,KV kvs vs/\s.heap.DictOf (dg X.prog X.w) p vs:=I.hok p _ hx;have hlen:kvs.length=vs.length:=Paired.length r;exact wpAny_truthy_dict hS m (by omega) ⟨H,I.tok _,by rw[AB r];exact q⟩
 |_=>exact(show False from e).elim
def EW(ha:PE X a ta)(he:∀whole,isTrue a X.env whole=(do let v <-whole;standAt a.pos;holding [v] (truthy v))) :
  PT X a (λσ H Q=>ta σ H λx H'=>∃k,EV X.K x H' k/\Q k H'):=by
 intro pins s σ H Q I h;exact isTrue_plain (bC (ha pins s σ H _ I h) λv s1 ⟨x,H1,I1,r1,q1⟩=>Mw pins s1 σ H1 x v Q I1 r1 q1) (he _)
def AD:ek X (binaryOp .Add) (λx y H Q=>∃i j,x=.str i/\y=.str j/\i.length+j.length<=sizeLine/\Q (.str (i++j)) H):=by
 intro pins s σ H x y v u Q I rx ry h;obtain⟨i,j,rfl,rfl,hz,q⟩:=h;obtain⟨t,rfl⟩:=rx;obtain⟨t',rfl⟩:=ry;exact add_str (λt' tk=>⟨.str (i++j),H,I.tok _,⟨_,rfl⟩,q⟩) hz
def vals1{x:V}{us:List Value}(r:Vals [x] us):∃u,us=[u]/\RelV x u:=by
 cases r with
 |cons r1 r2=>cases r2;exact⟨_,rfl,r1⟩
def vals2{x y:V}{us:List Value}(r:Vals [x,y] us):∃u w',us=[u,w']/\RelV x u/\RelV y w':=by
 cases r with
 |cons r1 r2=>
  cases r2 with
  |cons r3 r4=>cases r4;exact⟨_,_,rfl,r1,r3⟩
def Ck (hc:X.calm=true):fy X (.builtin "min") (λxs H Q=>∃i j,xs=[.int i,.int j]/\Q (.int (if j<i then j else i)) H):=by
 intro pins s σ H xs us Q I r h;obtain⟨i,j,rfl,q⟩:=h;obtain⟨u,w',rfl,⟨t,rfl⟩,⟨t',rfl⟩⟩:=vals2 r;refine min_two_ints (I.ok.hd hc) λh' tk k=>⟨_,H,I.kept k,?_,q⟩
 by_cases hj:j<i
 .rw[mD hj,mD hj];exact⟨_,rfl⟩
 .rw[Yv hj,Yv hj];exact⟨_,rfl⟩
end
def nB.some_of{v:V}{o:Option Value}(r:nB (some v) o):∃u,o=some u/\RelV v u:=by
 cases o with
 |none=>exact(show False from r).elim
 |some u=>exact⟨u,rfl,r⟩
structure fL(k:Nat)(A:Around):Prop where
 hd:A.handled=none
 dp:A.depth+3*k+5<recursionLimit
 un:A.units+16*k+200<cLine
theorem fL.deeper{k:Nat}{A:Around}(r:fL (k+1) A)(env:Env):fL k (A.deeper env):=
 ⟨r.hd,by have:=r.dp;show A.depth+1+3*k+5<_;omega,by have:=r.un;show A.units+3+16*k+200<_;omega⟩
theorem fL.depth{k:Nat}{A:Around}(r:fL k A):A.depth<recursionLimit:=by have:=r.dp;omega
theorem fL.units{k:Nat}{A:Around}(r:fL k A):A.units+64<cLine:=by have:=r.un;omega
noncomputable def Vm:TA:=λ_ H Q=>Q [] H
noncomputable def Rj(ta:TE)(tr:TA):TA:=λσ H Q=>ta σ H λx H1=>tr σ H1 λxs H2=>Q (x :: xs) H2
section
variable{X:Cx}{e:Expr}{es:List Expr}{te:TE}{t:TA}{pos:Pos}
def g7:PA X [] Vm:=λ_ _ _ _ H Q I h=>abm ⟨[],H,I,.nil,h⟩
def dQ(ha:PE X e te)(hr:PA X es t)(hs:starEach (e :: es) X.env=(false,eval e X.env) :: starEach es X.env:=by rfl):PA X (e :: es) (Rj te t):=by
 intro pos pins s σ H Q I h;rw[hs];show wpAny _ _ (spliced ((false,eval e X.env) :: backTo pos (starEach es X.env))) _ _ s;refine abk (bC (ha pins s σ H _ I h) λu s1 ⟨x,H1,I1,r1,q1⟩=>?_);exact bC (hr pos pins s1 σ H1 _ I1 q1) λus s2 ⟨xs,H2,I2,r2,q2⟩=>⟨x :: xs,H2,I2,.cons r1 r2,q2⟩
noncomputable def Vn(t:TA):TE:=λσ H Q=>t σ H λxs H1=>xs.length<=sizeLine/\∀p,H1 p=none->Q (.ref p) (upd H1 p (.tup xs))
noncomputable def Vo(t:TA):TE:=λσ H Q=>t σ H λxs H1=>xs.length<=sizeLine/\∀p,H1 p=none->Q (.ref p) (upd H1 p (.lst xs))
def Cm{x1}(h:PA X es t):PE X (.Tuple es x1 pos) (Vn t):=by
 intro pins s σ H Q I hq;refine wpAny_Tuple_spliced (bC (h pos pins s σ H _ I hq) λus s1 ⟨xs,H1,I1,r,z,q⟩=>⟨by rw[<-r.length];exact z,?_⟩);have hf:H1 s1.heap.objs.size=none:=I1.hok.fresh (Ad _);refine⟨.ref s1.heap.objs.size,upd H1 s1.heap.objs.size (.tup xs),I1.laid (t':=s1.toks) (λb u e=>vz _ e) (Ad _) ?_,rfl,q _ hf⟩;exact⟨z,us,r,⟨_,aac _ rfl,rfl,_,rfl⟩⟩
def vK(h:PA X es t):PE X (.List es pos) (Vo t):=by
 intro pins s σ H Q I hq;refine wpAny_List_spliced (bC (h pos pins s σ H _ I hq) λus s1 ⟨xs,H1,I1,r,z,q⟩=>⟨by rw[<-r.length];exact z,?_⟩);have hf:H1 s1.heap.objs.size=none:=I1.hok.fresh (Ad _);refine⟨.ref s1.heap.objs.size,upd H1 s1.heap.objs.size (.lst xs),I1.laid (t':=s1.toks) (λb u e=>vz _ e) (Ad _) ?_,rfl,q _ hf⟩;exact⟨z,us,0,r,aac _ rfl⟩
end
abbrev Sp:=List V->Hp->VK->XK->Prop
abbrev lS:=List Env->Hp->Shared->XK->Value->Shared->Prop
structure sM(P:Program)(w:World)(K:PySem.W.Frag)(mg:Str->Option Value)(base:Heap)(A:Around)(outer:List Env)(s:Shared)(H:Hp):Prop where
 frames:A.frames=some outer
 mod:Mod K mg base
 bs:∀b o,base.get? b=some o->s.heap.get? b=some o/\H b=none
 nC:base.objs.size<=s.heap.objs.size
 iz:s.heap.FunFrames base outer
 pR:∀b∈frs outer,H b=none
 hok:ee P w H s.heap
 bare:AllBare s.gens
noncomputable def CE(outer:List Env)(P:Program)(w:World)(H:Hp)(s:Shared)(Q:VK)(u:Value)(s':Shared):Prop:=
 ∃v H',s'.os=s.os/\AllBare s'.gens/\Un (frs outer) [] H H' s.heap s'.heap/\ee P w H' s'.heap/\RelV v u/\Q v H'
noncomputable def CR(CX:lS)(outer:List Env)(P:Program)(w:World)(H:Hp)(s:Shared)(Q:VK)(E:XK)(r:Result)(s':Shared):Prop:=
 match r with
 |.ok (.ret u)=>CE outer P w H s Q u s'
 |.ok _=>False
 |.error e=>CX outer H s E e s'
structure fM(P:Program)(w:World)(K:PySem.W.Frag)(mg:Str->Option Value)(base:Heap)(CX:lS)(k:Nat)(f:Addr)(fd:FuncData)(ps:List Str)(sp:Sp):Prop where
 len:∀vs H Q E,sp vs H Q E->vs.length=ps.length
 run:∀(A:Around) (outer:List Env) (s:Shared) (H:Hp) (args:Args) (us:List Value) (vs:List V) (Q:VK) (E:XK),fL k A->sM P w K mg base A outer s H->BindsTo s fd args (ps.zip us)->Vals vs us->sp vs H Q E->
  codeAny (model P w) A (.call (.ref f) args) (CR CX outer P w H s Q E) s
section
variable{X:Cx}{pins:List (Addr×Obj)}{σ:St}{H:Hp}{s s':Shared}
def Inv.lD(I:Inv X pins σ H s):sM X.prog X.w X.K X.mg X.base X.A X.stack s H:=
 ⟨I.ok.frames,I.ok.mod,I.bs,aaf I.ok.nC I.sz,I.stack,I.sL,I.hok,I.bare⟩
def Inv.after{Q:VK}{u:Value}(I:Inv X pins σ H s)(h:CE X.stack X.prog X.w H s Q u s'):EP X pins σ Q u s':=by
 obtain⟨v,H',os,bare,un,hok,r,q⟩:=h;obtain⟨hh,g,d,t,os'⟩:=s';obtain rfl:os'=s.os:=os;exact⟨v,H',I.call (h':=hh) (g':=g) (d':=d) (t':=t) (ch:=[]) un hok bare (λb z=>absurd z (by simp)),r,q⟩
end
noncomputable def Rk(sp:Sp)(kj:List V)(E:XK)(t:TA):TE:=λσ H Q=>t σ H λvs H1=>sp (vs++kj) H1 Q E
noncomputable def Binds(K:PySem.W.Frag)(fd:FuncData)(ps:List Str)(ds:List Value):Prop:=
 ∀(s:Shared) (us:List Value),K.In s.heap->(us++ds).length=ps.length->BindsTo s fd ⟨us,[]⟩ (ps.zip (us++ds))
def Binds.all{K:PySem.W.Frag}{fd:FuncData}{ps:List Str}(h:∀us:List Value,us.length=ps.length->bindArgs fd ⟨us,[]⟩=pure (ps.zip us)):Binds K fd ps []:=λs us _ hl=>by
 rw[aae]at hl ⊢;exact .of_eq (h us hl)
noncomputable def Passes(CX:lS)(X:Cx)(E:XK):Prop:=∀(pins:List (Addr×Obj)) (σ:St) (H:Hp) (s:Shared) (e:Value) (s':Shared),Inv X pins σ H s->CX X.stack H s E e s'->X.xe e s'
section
variable{X:Cx}{CX:lS}{k:Nat}{f:Addr}{fd:FuncData}{ps:List Str}{sp:Sp}{kj:List V}{ds:List Value}{E:XK}{x:Str}{p pos:Pos}{e:Expr}{es:List Expr}{t:TA}
def Mx{pins:List (Addr×Obj)}{σ:St}{H:Hp}{s:Shared}{Q:VK}{us:List Value}{vs:List V}(F:fM X.prog X.w X.K X.mg X.base CX k f fd ps sp)(hr:fL k X.A)(hb:Binds X.K fd ps ds)(hd:Vals kj ds)(hx:Passes CX X E)
  (I:Inv X pins σ H s) (r:Vals vs us) (h:sp (vs++kj) H Q E):wpAny (model X.prog X.w) X.A (call (.ref f) us) (EP X pins σ Q) X.xe s:=by
 have r2:Vals (vs++kj) (us++ds):=r.append hd;have hl:(us++ds).length=ps.length:=by rw[<-r2.length];exact F.len _ _ _ _ h
 refine acg (abW (F.run X.A X.stack s H ⟨us,[]⟩ (us++ds) (vs++kj) Q E hr I.lD (hb s us I.jE hl) r2 h) λr s' hq=>?_);cases r with
 |error e=>exact hx pins σ H s e s' I hq
 |ok fl=>
  cases fl with
  |ret u=>exact I.after hq
  |next=>exact False.elim hq
  |brk=>exact False.elim hq
  |cont=>exact False.elim hq
def sN(F:fM X.prog X.w X.K X.mg X.base CX k f fd ps sp)(hr:fL k X.A)(hg:Gl X x)(hm:X.mg x=some (.ref f))(hk:PySem.W.keepIn X.K (.ref f)=true)(hb:Binds X.K fd ps ds)(hd:Vals kj ds)(hx:Passes CX X E)
  (ha:PA X (e :: es) t) (hdb:(x==("__debug__" : Str))=false:=by decide) (he:starEach (e :: es) X.env=(false,eval e X.env) :: starEach es X.env:=by rfl) (hpl:(backTo pos (starEach es X.env)).any (·.1)=false:=by rfl) :
  PE X (.Call (.Name x p) (e :: es) [] pos) (Rk sp kj E t):=by
 intro pins s σ H Q I h;refine aaO (oS I hg hm ?_ hdb);refine acT (h₀:=X.base) I.ok.mod.cW hk (bC (ha pos pins s σ H _ I h) λus s1 ⟨vs,H1,I1,r,q⟩=>⟨I1.jE,?_⟩) he hpl;exact Mx F hr hb hd hx I1 r q
end
structure bH(N P:List Str)(sc:Scope):Prop where
 kind:sc.kind=.function
 co:sc.isCoroutine=false
 gen:sc.isGenerator=false
 nd:N.Nodup
 pre:N.take P.length=P
 par:∀x∈P,sc.names.lookup x=some .local\/sc.names.lookup x=some .cell
 My:∀y∈sc.names,y.2≠.free
theorem uv{kindOf:Str->Option NameKind}{x:Str}:∀{binds:List (Str×Value)}{m:Str->Option Value},(∀v,(x,v)∉binds)->bindL kindOf binds m x=m x
 |[],_,_=>rfl
 | (n,v) :: r,m,h=>by
  unfold bindL;rw[uv λw hw=>h w (aam _ hw)];split
  .have:x≠n:=by rintro rfl;exact h v aaD
   simp[this]
  .rfl
theorem uw{kindOf:Str->Option NameKind}{x:Str}:∀{binds:List (Str×Value)}{m:Str->Option Value},(∀v,(x,v)∉binds)->bindC kindOf binds m x=m x
 |[],_,_=>rfl
 | (n,v) :: r,m,h=>by
  unfold bindC;rw[uw λw hw=>h w (aam _ hw)];split
  .rfl
  .have:x≠n:=by rintro rfl;exact h v aaD
   simp[this]
theorem ux{kindOf:Str->Option NameKind}{x:Str}{v:Value}:∀{P:List Str}{vs:List Value}{i:Nat}{m:Str->Option Value},P.Nodup->P[i]?=some x->vs[i]?=some v->kindOf x=some .local->
  bindL kindOf (P.zip vs) m x=some v
 |[],_,_,_,_,h,_,_=>by simp at h
 |_ :: _,[],_,_,_,_,h,_=>by simp at h
 |p :: P,w :: vs,0,m,nd,h1,h2,hk=>by
  simp at h1 h2;subst h1;subst h2;show bindL kindOf ((p,w) :: P.zip vs) m p=_;unfold bindL;rw[uv λv hv=>(List.nodup_cons.mp nd).1 (ab0 hv).1,mD hk];simp
 |p :: P,w :: vs,i+1,m,nd,h1,h2,hk=>by
  show bindL kindOf ((p,w) :: P.zip vs) m x=_;unfold bindL;exact ux (i:=i) (List.nodup_cons.mp nd).2 (by simpa using h1) (by simpa using h2) hk
theorem uy{kindOf:Str->Option NameKind}{x:Str}{v:Value}:∀{P:List Str}{vs:List Value}{i:Nat}{m:Str->Option Value},P.Nodup->P[i]?=some x->vs[i]?=some v->kindOf x≠some .local->
  bindC kindOf (P.zip vs) m x=some v
 |[],_,_,_,_,h,_,_=>by simp at h
 |_ :: _,[],_,_,_,_,h,_=>by simp at h
 |p :: P,w :: vs,0,m,nd,h1,h2,hk=>by
  simp at h1 h2;subst h1;subst h2;show bindC kindOf ((p,w) :: P.zip vs) m p=_;unfold bindC;rw[uw λv hv=>(List.nodup_cons.mp nd).1 (ab0 hv).1,Yv hk];simp
 |p :: P,w :: vs,i+1,m,nd,h1,h2,hk=>by
  show bindC kindOf ((p,w) :: P.zip vs) m x=_;unfold bindC;exact uy (i:=i) (List.nodup_cons.mp nd).2 (by simpa using h1) (by simpa using h2) hk
noncomputable def start(N:List Str)(vs:List V):St:=vs.map some++List.replicate (N.length - vs.length) none
noncomputable def jJ(CX:lS)(P:Program)(w:World)(K:PySem.W.Frag)(mg:Str->Option Value)(base:Heap)(N:List Str)(qual:Str)(scope:Scope)(f:Addr)(cd:Value)(A:Around)(outer:List Env)(s:Shared)(H:Hp)(E:XK):Cx where
 prog:=P
 w:=w
 K:=K
 mg:=mg
 base:=base
 A:=A.deeper (envOfC qual scope s.heap.objs.size f cd)
 N:=N
 s₀:=s
 H₀:=H
 env:=envOfC qual scope s.heap.objs.size f cd
 outer:=outer
 stack:=envOfC qual scope s.heap.objs.size f cd :: outer
 ex:=[]
 calm:=true
 fn:=λ_=>true
 pn:=[]
 xe:=λe s'=>wpAny (model P w) (A.deeper (envOfC qual scope s.heap.objs.size f cd)) (leaving (envOfC qual scope s.heap.objs.size f cd) e) (λ_ s''=>CX outer H s E e s'') (λe' s''=>CX outer H s E e' s'') s'
def vL{sc:Scope}{n:Nat}{x:Str}(h:sc.names.lookup x=some .cell):∃c,(cellsFrom n sc.names []).lookup x=some c:=by
 have q:=abO sc.names n [] (.inl h);exact Option.isSome_iff_exists.mp q
def uz{CX:lS}{P:Program}{w:World}{K:PySem.W.Frag}{mg:Str->Option Value}{base:Heap}{N ps:List Str}{qual:Str}{scope:Scope}{f:Addr}{cd:Value}{A:Around}{outer:List Env}{s s1:Shared}{H:Hp}{E:XK}{us:List Value}{vs:List V}
  (S:bH N ps scope) (hd:A.handled=none) (e0:sM P w K mg base A outer s H) (hl:vs.length=ps.length) (r:Vals vs us)
  (x:InCallC s s.heap.objs.size (bindL (envOfC qual scope s.heap.objs.size f cd).kindOf (ps.zip us) λ_=>none) (cellsFrom (s.heap.objs.size+1) scope.names []) (bindC (envOfC qual scope s.heap.objs.size f cd).kindOf (ps.zip us) λ_=>none) s1) :
  Inv (jJ CX P w K mg base N qual scope f cd A outer s H E) [] (start N vs) H s1:=by
 have hpl:ps.length<=N.length:=by have:=aab List.length S.pre;rw[aa4]at this;omega
 obtain⟨h1,tk,rfl,hk⟩:=x.done;have Co:∀b:Addr,b∉(jJ CX P w K mg base N qual scope f cd A outer s H E).ex:=λb z=>absurd (show b∈([]:List Addr)from z) (by simp);refine⟨⟨e0.mod,S.kind,rfl,rfl,Ad _,λy z c h1 h2=>?_,λy hy=>?_,λy c _ h=>?_,λ_=>hd,Around.frames_deeper e0.frames,.inr ⟨rfl,rfl⟩,λb z=>absurd z (Co b),e0.bs,e0.nC,λb _ _=>Co b,λb z=>absurd z (Co b),e0.iz,e0.pR⟩,
  rfl,e0.bare,Un.kept hk,⟨_,x.toInCall.ns,λi y v h1 h2 h3=>?_⟩,λy c h=>⟨_,x.cell y c h⟩,e0.hok.fresh (Ad _),λy c h=>?_,λp hp=>absurd (show p∈([]:List (Addr×Obj))from hp) (by simp),e0.hok.kept hk,?_⟩
 .exact name_of_addr x.apart (abh h1) (abh h2)
 .have hy:scope.names.lookup y=some .cell\/scope.names.lookup y=some .free:=hy;rcases hy with hy|hy
  .exact vL hy
  .exact absurd rfl (S.My _ (abh hy))
 .exact acQ (x.above y c (abh h))
 .have hi:i<vs.length:=by
   unfold start at h2;by_cases hi:i<vs.length
   .exact hi
   .rw[aaN (by simpa using hi)]at h2;rw[acv]at h2;split at h2<;>cases h2
  have ha:vs[i]?=some v:=by
   unfold start at h2;rw[UK (by simpa using hi),aaj]at h2;cases e:vs[i]? with
   |none=>rw[e]at h2;cases h2
   |some a=>rw[e]at h2;cases h2;rfl
  obtain⟨u,hu,rv⟩:=r.get ha;have hp:ps[i]?=some y:=by
   rw[<-S.pre,List.getElem?_take_of_lt (by omega)];exact h1
  have T9:ps.Nodup:=by rw[<-S.pre];exact S.nd.sublist (List.take_sublist _ _)
  refine⟨u,rv,?_⟩;rcases S.par y (aal hp)with k|k
  .exact .inl ⟨k,ux T9 hp hu k⟩
  .obtain⟨c,e⟩:=vL (n:=s.heap.objs.size+1) k;refine .inr ⟨.inl k,c,e,?_⟩;have q:=x.cell y c e;rw[uy T9 hp hu (by show scope.names.lookup y≠_;rw[k];decide)]at q;exact q
 .exact e0.hok.fresh (acQ (x.above y c (abh h)))
 .unfold start;show _=N.length;rw[PX,aag,List.length_replicate];omega
def Hj{CX:lS}{P:Program}{w:World}{K:PySem.W.Frag}{mg:Str->Option Value}{base:Heap}{k:Nat}{f:Addr}{name qual:Str}{params:Arguments}{body:List Stmt}{scope:Scope}{dV kV doc pm cdv ct oc:Value}{an od:Option Addr}
  {osl:Array (Option Value)} {N ps:List Str} {sp:Sp} (lk:K.lookup f=some ⟨oc,od,.func (PySem.W.fnOf name qual params body scope dV kV doc pm an cdv ct),osl⟩) (hcd:PySem.W.codeIn K cdv qual=true) (S:bH N ps scope)
  (len:∀vs H Q E,sp vs H Q E->vs.length=ps.length)
  (hbody:∀(A:Around) (outer:List Env) (s:Shared) (H:Hp) (vs:List V) (Q:VK) (E:XK),fL k (A.deeper (envOfC qual scope s.heap.objs.size f cdv))->sp vs H Q E->
   ∃t,fD (jJ CX P w K mg base N qual scope f cdv A outer s H E) body t/\t { nx:=λ_ H'=>Q .aU H',rt:=Q } (start N vs) H) :
  fM P w K mg base CX (k+1) f (PySem.W.fnOf name qual params body scope dV kV doc pm an cdv ct) ps sp:=by
 refine⟨len,λA outer s H args us vs Q E hr e0 hb r iW=>?_⟩;have hl:=len _ _ _ _ iW;have KX:K.In s.heap:=e0.mod.cW.keeps λb o e=>(e0.bs b o e).1;have lim:s.heap.NoLimit:=e0.mod.nolimit.keeps λb o e=>(e0.bs b o e).1;have hkind:∀y∈ps.zip us,scope.names.lookup y.1=some .local\/(scope.names.lookup y.1=some .cell/\((cellsFrom (s.heap.objs.size+1) scope.names []).lookup y.1).isSome=true):=λ⟨n,v⟩ hy=>by
  rcases S.par n (ab0 hy).1 with q|q
  .exact .inl q
  .exact .inr ⟨q,abO _ _ _ (.inl q)⟩
 refine codeAny_call_function hr.depth (KX _ _ lk) rfl S.co S.gen rfl (acS KX hcd) (hb _ _ _ _ ?_);refine acd S.kind hkind λenv he s1 x=>?_;subst he;refine⟨lim.keeps x.toInCall.keep,codeAny_func ?_⟩;obtain⟨t,ht,hq⟩:=hbody A outer s H vs Q E (hr.deeper _) iW;have I:Inv (jJ CX P w K mg base N qual scope f cdv A outer s H E) [] (start N vs) H s1:=uz S hr.hd e0 hl r x;refine aas (ht [] s1 (start N vs) H _ I hq) (λfl s' hs=>?_) λe s' hs=>hs;have fin:∀{σ':St} {H':Hp} {v:V} {u:Value},Inv (jJ CX P w K mg base N qual scope f cdv A outer s H E) [] σ' H' s'->RelV v u->Q v H'->CE outer P w H s Q u s':=
  λ{σ' H' v u} J rv q=>⟨v,H',J.os,J.bare,J.base,J.hok,rv,q⟩
 cases fl with
 |ret u=>
  obtain⟨v,σ',H',J,rv,q⟩:=hs;exact fin J rv q
 |next=>
  obtain⟨σ',H',J,q⟩:=hs;exact fin (v:=V.aU) (u:=Value.none) J rfl q
 |brk=>
  obtain⟨_,_,_,q⟩:=hs;exact False.elim q
 |cont=>
  obtain⟨_,_,_,q⟩:=hs;exact False.elim q
section
variable{X:Cx}{x:Str}{p pos:Pos}{e:Expr}{es:List Expr}{t:TA}{id T:String}{r:List V->Hp->VK->Prop}
noncomputable def Mz(r:List V->Hp->VK->Prop)(t:TA):TE:=λσ H Q=>t σ H λvs H1=>r vs H1 Q
def vM (hc:fy X (.builtin id) r) (hg:Gl X x) (hm:X.mg x=none) (hv:bootBuiltins x=some (.builtin id)) (ha:PA X (e :: es) t) (hn:x≠"__name__" :=by decide) (hdb:(x==("__debug__" : Str))=false:=by decide)
  (he:starEach (e :: es) X.env=(false,eval e X.env) :: starEach es X.env:=by rfl) (hpl:(backTo pos (starEach es X.env)).any (·.1)=false:=by rfl):PE X (.Call (.Name x p) (e :: es) [] pos) (Mz r t):=by
 intro pins s σ H Q I h;refine aaO (iV I hg hm hv ?_ hn hdb);exact PyProof.Rows.callWith_builtin1 (bC (ha pos pins s σ H _ I h) λus s1 ⟨vs,H1,I1,r1,q1⟩=>hc pins s1 σ H1 vs us Q I1 r1 q1) he hpl
def nH (hc:fy X (.type T) r) (hg:Gl X x) (hm:X.mg x=none) (hv:bootBuiltins x=some (.type T)) (ha:PA X (e :: es) t) (hn:x≠"__name__" :=by decide) (hdb:(x==("__debug__" : Str))=false:=by decide)
  (he:starEach (e :: es) X.env=(false,eval e X.env) :: starEach es X.env:=by rfl) (hpl:(backTo pos (starEach es X.env)).any (·.1)=false:=by rfl):PE X (.Call (.Name x p) (e :: es) [] pos) (Mz r t):=by
 intro pins s σ H Q I h;refine aaO (iV I hg hm hv ?_ hn hdb);exact aax (bC (ha pos pins s σ H _ I h) λus s1 ⟨vs,H1,I1,r1,q1⟩=>hc pins s1 σ H1 vs us Q I1 r1 q1) he hpl
end
end L2
namespace HT
open PySem PyProof.Rows
section
variable{prog:Program}{w:World}{A:Around}{E:Value->Shared->Prop}{s:Shared}
def Jx{t b:Addr}{vs ws:List Value}{Q:Value->Shared->Prop}(ht:IsTup s.heap t vs.toArray)(hb:IsTup s.heap b ws.toArray)(hv:vs≠[])
  (h1:ws=[]->Q (.ref t) s) (h2:ws≠[]->Q (.ref s.heap.objs.size) { s with heap:=s.heap.push { cls:=.type "tuple",data:=.seq (vs++ws).toArray }})
  (hsz:vs.length+ws.length<=sizeLine):wpAny (model prog w) A (binaryOp .Add (.ref t) (.ref b)) Q E s:=by
 obtain⟨⟨cls,dd,data,sl⟩,ho,hc,n,hd⟩:=id ht;obtain⟨⟨Vp,dd2,data2,sl2⟩,ho2,hc2,n2,hd2⟩:=id hb;simp only at hc hd hc2 hd2;subst hc hd hc2 hd2;have e:vs.toArray++ws.toArray=(vs++ws).toArray:=by simp
 by_cases hw:ws=[]
 .exact concat_meets ⟨_,ho,rfl⟩ ⟨_,ho2,rfl⟩ acp seq_tuple_add abQ abJ (abG _ _)
   (tuple_addW1 t b vs.toArray ws.toArray n n2 dd dd2 sl sl2 (by simpa using hv) (by simp[hw])) ⟨ho,ho2,h1 hw⟩
 .refine concat_meets ⟨_,ho,rfl⟩ ⟨_,ho2,rfl⟩ acp seq_tuple_add abQ abJ (abG _ _)
   (tuple_addW2 t b vs.toArray ws.toArray n n2 dd dd2 sl sl2 (by simpa using hv) (by simpa using hw) (by rw[iy,iy];exact hsz)) ⟨ho,ho2,?_⟩
  rw[e];exact h2 hw
noncomputable def aP(n d:Nat):Option Int->Nat
 |none=>d
 |some v=>if v<0 then (v+(n:Int)).toNat else min v.toNat n
def vN(n d:Nat)(hd:d<=n)(o:Option Int):aP n d o<=n:=by
 cases o with
 |none=>exact hd
 |some v=>
  show(if v<0 then (v+(n:Int)).toNat else min v.toNat n)<=n;by_cases hv:v<0
  .rw[mD hv];omega
  .rw[Yv hv];exact Nat.min_le_right _ _
def yU(v:Int)(n d:Nat):(if v<0 then max (v+(n:Int)) 0 else min v (n:Int))=((aP n d (some v):Nat):Int):=by
 show(if v<0 then max (v+(n:Int)) 0 else min v (n:Int))=(((if v<0 then (v+(n:Int)).toNat else min v.toNat n):Nat):Int)
 by_cases hv:v<0
 .simp only[mD hv];omega
 .simp only[Yv hv];omega
def AE(lo hi:Option Int)(n:Nat):Builtin.Slice.sliceAdjust lo hi 1 (n:Int)=(((aP n 0 lo:Nat):Int),((aP n n hi:Nat):Int)):=by
 have h1:¬ ((1:Int)<0):=by omega
 unfold Builtin.Slice.sliceAdjust;simp only[h1,aa2];refine Prod.ext ?_ ?_
 .cases lo with
  |none=>rfl
  |some v=>exact yU v n 0
 .cases hi with
  |none=>rfl
  |some v=>exact yU v n n
def AF(i j:Nat):Builtin.Slice.slicePlaces (i:Int) (j:Int) 1=j - i:=by
 unfold Builtin.Slice.slicePlaces;have h1:(1:Int) > 0:=by omega
 simp only[h1,aan,Int.ediv_one];split<;>omega
def qT{v:Value}{o:Option Int}{Q:Option Int->Shared->Prop}(p:IsPart v o)(h:Q o s):wpAny (model prog w) A (Builtin.Slice.slicePartIndex v) Q E s:=by
 cases p with
 |none=>exact slicePart_none h
 |int i t=>exact slicePart_int h
def ko{sl:Addr}{vl vu:Value}{lo hi:Option Int}{n:Nat}{Q:Int×Int×Nat->Shared->Prop}(hs:s.heap.IsSliceOf sl vl vu .none)(pl:IsPart vl lo)(pu:IsPart vu hi)
  (h:Q (((aP n 0 lo:Nat):Int),1,aP n n hi - aP n 0 lo) s):wpAny (model prog w) A (Builtin.Slice.sliceApplied (.ref sl) (pure (n:Int))) Q E s:=by
 obtain⟨os,hos,hcs,hds⟩:=id hs;unfold Builtin.Slice.sliceApplied Builtin.Slice.sliceFields;refine eZ (eZ (aa6 hos hds (x:=vl) rfl (eZ (aa6 hos hds (x:=vu) rfl (eZ (aa6 hos hds (x:=.none) rfl (uZ ?_)))))));refine eZ (slicePart_none ?_);show wpAny _ _ (if ((1:Int)==0)=true then _ else _) _ _ s;rw[Yv (by decide)];refine eZ (qT pl (eZ (qT pu (eZ (uZ ?_)))));show wpAny _ _ (match Builtin.Slice.sliceAdjust lo hi 1 (n:Int)with | (lo,hi)=>pure (lo,(1:Int),Builtin.Slice.slicePlaces lo hi 1)) _ _ s;rw[AE lo hi n];show wpAny _ _ (pure (((aP n 0 lo:Nat):Int),(1:Int),Builtin.Slice.slicePlaces ((aP n 0 lo:Nat):Int) ((aP n n hi:Nat):Int) 1)) _ _ s;rw[AF];exact uZ h
def EX(xs:Array Value)(i k:Nat):((List.range k).filterMap λ(m:Nat)=>xs[((i:Int)+(m:Int)*1).toNat]?).toArray=((xs.toList.drop i).take k).toArray:=by
 have e:(λ(m:Nat)=>xs[((i:Int)+(m:Int)*1).toNat]?)=λm=>xs[i+m]?:=by
  funext m
  have:((i:Int)+(m:Int)*1).toNat=i+m:=by omega
  rw[this]
 rw[e];have:=pick_run xs i k;rw[List.filterMap_map]at this;have e2:((λx=>xs[x]?) ∘ λx=>i+x)=λm=>xs[i+m]?:=rfl;rw[e2]at this;rw[this]
def pP{t sl:Addr}{items:Array Value}{vl vu:Value}{lo hi:Option Int}{Q:Value->Shared->Prop}(ht:IsTup s.heap t items)(hs:s.heap.IsSliceOf sl vl vu .none)(pl:IsPart vl lo)(pu:IsPart vu hi)
  (hw:¬ (aP items.size 0 lo=0/\aP items.size items.size hi=items.size))
  (h:Q (.ref s.heap.objs.size) { s with heap:=s.heap.push { cls:=.type "tuple",data:=.seq ((items.toList.drop (aP items.size 0 lo)).take (aP items.size items.size hi - aP items.size 0 lo)).toArray }})
  (hsz:items.size<=sizeLine):wpAny (model prog w) A (getItem (.ref t) (.ref sl)) Q E s:=by
 have ve:sizeOk (.seq ((items.toList.drop (aP items.size 0 lo)).take (aP items.size items.size hi - aP items.size 0 lo)).toArray):=by
  show((items.toList.drop (aP items.size 0 lo)).take (aP items.size items.size hi - aP items.size 0 lo)).toArray.size<=sizeLine;rw[iy,aa4,acr,abw];omega
 have hj:aP items.size items.size hi<=items.size:=vN _ _ (Ad _) hi;obtain⟨os,hos,hcs,hds⟩:=id hs;have MA:s.TypeIs (.ref sl) "slice" :=⟨os,hos,hcs⟩
 unfold getItem;try with_reducible refine aaM ?_
 first|refine eZ (uZ ?_)|skip
 refine eZ (wpAny_sequenceKey ht.typeIs (by decide) ?_);refine eZ (abi (name:=Str.ofString "__getitem__") ht.typeIs aaR
  (abg aaR ht.typeIs entry_tuple_getitem ?_ (args_tuple_getitem _ _)))
 show wpAny _ _ (Builtin.Tuple.tupleItemsOf (.ref t) >>= _) _ _ s;refine eZ (tupleItemsOf_ ht ?_);refine eZ (abz MA ?_);rw[mD (by decide)];refine eZ (ko hs pl pu ?_);have hno:¬ ((((aP items.size 0 lo:Nat):Int)==0&&(1:Int)==1&&(aP items.size items.size hi - aP items.size 0 lo)==items.size)=true):=by
  intro q;rw[GY,GY]at q;have q1:((aP items.size 0 lo:Nat):Int)=0:=eq_of_beq q.1.1;have q2:aP items.size items.size hi - aP items.size 0 lo=items.size:=eq_of_beq q.2;exact hw ⟨by omega,by omega⟩
 show wpAny _ _ (if (((aP items.size 0 lo:Nat):Int)==0&&(1:Int)==1&&(aP items.size items.size hi - aP items.size 0 lo)==items.size)=true then _ else _) _ _ s;rw[Yv hno,EX];first
  |exact eZ (m:=Builtin.Tuple.tupleExact _) (aaA (uZ ⟨_,rfl,uZ h⟩) ve)
  |exact eZ (m:=Builtin.Tuple.tupleExact _) (aaA (eZ (uZ (uZ ⟨_,rfl,uZ h⟩))) ve)
  |exact eZ (eZ (m:=Builtin.Tuple.tupleExact _) (aaA (uZ (uZ ⟨_,rfl,uZ h⟩)) ve))
  |exact eZ (eZ (m:=Builtin.Tuple.tupleExact _) (aaA (uZ ⟨_,rfl,uZ h⟩) ve))
end
end HT
namespace L2
open PySem PySem.Spec PyProof.Rows
abbrev TO:=St->Hp->(Option Int->Hp->Prop)->Prop
noncomputable def PO(X:Cx)(e:Option Expr)(t:TO):Prop:=
 ∀(pins:List (Addr×Obj)) (s:Shared) (σ:St) (H:Hp) (Q:Option Int->Hp->Prop),Inv X pins σ H s->t σ H Q->
  wpAny (model X.prog X.w) X.A (evalPart e X.env) (λu s'=>∃o H',Inv X pins σ H' s'/\IsPart u o/\Q o H') X.xe s
noncomputable def Jy:TO:=λ_ H Q=>Q none H
noncomputable def Rl(t:TE):TO:=λσ H Q=>t σ H λx H1=>∃i,x=.int i/\Q (some i) H1
section
variable{X:Cx}{e:Expr}{te:TE}{lo hi:Option Expr}{tl th:TO}{pos p2:Pos}
def Jz:PO X none Jy:=by
 intro pins s σ H Q I h;rw[evalPart_none];exact uZ ⟨none,H,I,.none,h⟩
def JB(h:PE X e te):PO X (some e) (Rl te):=by
 intro pins s σ H Q I hw;rw[evalPart_some];refine bC (h pins s σ H _ I hw) λu s1 ⟨x,H1,I1,r1,q1⟩=>?_;obtain⟨i,rfl,q⟩:=q1;obtain⟨t,rfl⟩:=r1;exact⟨some i,H1,I1,.int i t,q⟩
noncomputable def lT(X:Cx)(r:V->Option Int->Option Int->Hp->VK->Prop):Prop:=
 ∀(pins:List (Addr×Obj)) (s:Shared) (σ:St) (H:Hp) (x:V) (v vl vu:Value) (lo hi:Option Int) (sl:Addr) (Q:VK),Inv X pins σ H s->RelV x v->s.heap.IsSliceOf sl vl vu .none->IsPart vl lo->IsPart vu hi->r x lo hi H Q->
  ∃T id,typeLookup (.type T) "__getitem__" = pure (some (.builtin id))/\s.TypeIs v T/\wpAny (model X.prog X.w) X.A (getItem v (.ref sl)) (EP X pins σ Q) X.xe s
noncomputable def W3(r:V->Option Int->Option Int->Hp->VK->Prop)(te:TE)(tl th:TO):TE:=λσ H Q=>te σ H λx H1=>tl σ H1 λl H2=>th σ H2 λu H3=>r x l u H3 Q
def EY{r:V->Option Int->Option Int->Hp->VK->Prop}(hr:lT X r)(he:PE X e te)(hl:PO X lo tl)(hu:PO X hi th):PE X (.Subscript e (.Slice lo hi none p2) pos) (W3 r te tl th):=by
 intro pins s σ H Q I h;refine Subscript_ (bC (he pins s σ H _ I h) λv s1 ⟨x,H1,I1,r1,q1⟩=>?_);refine wpAny_Slice (bC (hl pins s1 σ H1 _ I1 q1) λvl s2 ⟨l,H2,I2,pl,q2⟩=>bC (hu pins s2 σ H2 _ I2 q2) λvu s3 ⟨u,H3,I3,pu,q3⟩=>?_);rw[evalPart_none];refine uZ ?_;have I4:Inv X pins σ H3 { s3 with heap:=s3.heap.push { cls:=.type "slice",data:=.fields #[vl,vu,.none]}}:=I3.kept (t':=s3.toks) λb ob q=>vz _ q;obtain⟨T,id,hT,ht,hg⟩:=hr pins { s3 with heap:=s3.heap.push { cls:=.type "slice",data:=.fields #[vl,vu,.none]}} σ H3 x v vl vu l u s3.heap.objs.size Q I4 r1 (Heap.IsSliceOf.new ..) pl pu q3;show wpAny (model X.prog X.w) X.A (subscriptTail e (.Slice lo hi none p2) v (.ref s3.heap.objs.size)) (EP X pins σ Q) X.xe { s3 with heap:=s3.heap.push { cls:=.type "slice",data:=.fields #[vl,vu,.none]}};exact tail_any (ops:=[.ref s3.heap.objs.size,v]) ht hT hg (by with_unfolding_all rfl)
noncomputable def nI(xs:List V)(lo hi:Option Int):List V:=(xs.drop (HT.aP xs.length 0 lo)).take (HT.aP xs.length xs.length hi - HT.aP xs.length 0 lo)
def pT(xs:List V)(lo hi:Option Int):(nI xs lo hi).length<=xs.length:=by
 unfold nI;rw[aa4,acr];omega
noncomputable def Vq(K:PySem.W.Frag):V->Option Int->Option Int->Hp->VK->Prop:=λx lo hi H Q=>∃a xs,x=.ref a/\dJ K H a xs/\
 ¬ (HT.aP xs.length 0 lo=0/\HT.aP xs.length xs.length hi=xs.length)/\∀p,H p=none->Q (.ref p) (upd H p (.tup (nI xs lo hi)))
def MB:lT X (Vq X.K):=by
 intro pins s σ H x v vl vu lo hi sl Q I rx hs pl pu h;obtain⟨a,xs,rfl,hx,hw,q⟩:=h;cases rx;obtain⟨its,r,ht,hz⟩:=I.tuple hx;have hlen:its.toArray.size=xs.length:=by rw[iy];exact r.length.symm
 refine⟨"tuple",_,PyProof.Rows.slot_tuple_getitem.lookup,ht.typeIs,?_⟩;refine HT.pP ht hs pl pu (by rw[hlen];exact hw) ?_ (by rw[hlen];exact hz);rw[hlen];refine⟨.ref s.heap.objs.size,_,I.laid (t':=s.toks) (o:=.tup (nI xs lo hi)) (λb ob q=>vz _ q) (Ad _) ?_,rfl,q _ (I.hok.fresh (Ad _))⟩;exact⟨aaf (pT xs lo hi) hz,_,(r.drop (HT.aP xs.length 0 lo)).take (HT.aP xs.length xs.length hi - HT.aP xs.length 0 lo),IsTup.new _ _⟩
noncomputable def Rm(K:PySem.W.Frag):R2:=λx y H Q=>∃a b xs ys,x=.ref a/\y=.ref b/\dJ K H a xs/\dJ K H b ys/\xs≠[]/\xs.length+ys.length<=sizeLine/\
 (ys=[]->Q (.ref a) H)/\(ys≠[]->∀p,H p=none->Q (.ref p) (upd H p (.tup (xs++ys))))
def Vals.sO{xs:List V}{us:List Value}(r:Vals xs us):us=[]↔xs=[]:=by
 cases r with
 |nil=>simp
 |cons _ _=>simp
def JD:ek X (binaryOp .Add) (Rm X.K):=by
 intro pins s σ H x y v u Q I rx ry h;obtain⟨a,b,xs,ys,rfl,rfl,ha,hb,hx,hz,q1,q2⟩:=h;cases rx;cases ry;obtain⟨its,r1,p1,_⟩:=I.tuple ha;obtain⟨its2,r2,p2,_⟩:=I.tuple hb;refine HT.Jx p1 p2 (λz=>hx (r1.sO.mp z)) (λz=>⟨.ref a,H,I,rfl,q1 (r2.sO.mp z)⟩) (λz=>?_) (by rw[<-r1.length,<-r2.length];exact hz);refine⟨.ref s.heap.objs.size,_,I.laid (t':=s.toks) (o:=.tup (xs++ys)) (λb ob q=>vz _ q) (Ad _) ?_,rfl,q2 (λw=>z (r2.sO.mpr w)) _ (I.hok.fresh (Ad _))⟩;exact⟨by rw[PX];exact hz,_,r1.append r2,IsTup.new _ _⟩
end
noncomputable def cL(n:Nat)(i:Int):Option Nat:=if 0<=i then (if i<n then some i.toNat else none)else if -(n:Int)<=i then some (i+n).toNat else none
noncomputable def bE{α:Type}(xs:List α)(i:Int):Option α:=(cL xs.length i).bind λj=>xs[j]?
def yV{n:Nat}{i:Int}{j:Nat}(h:cL n i=some j):seqIndex? i n=some j/\j<n/\-(n:Int)<=i/\i<n:=by
 unfold cL at h;by_cases h0:0<=i
 .rw[mD h0]at h;by_cases h1:i<n
  .rw[mD h1]at h;have e:i.toNat=j:=PV h;exact⟨by rw[seqIndex_of h0 h1,e],by omega,by omega,h1⟩
  .rw[Yv h1]at h;cases h
 .rw[Yv h0]at h;by_cases h1:-(n:Int)<=i
  .rw[mD h1]at h;have e:(i+n).toNat=j:=PV h;exact⟨by rw[seqIndex_neg (by omega) h1,e],by omega,h1,by omega⟩
  .rw[Yv h1]at h;cases h
def sP{α:Type}{xs:List α}{i:Int}{v:α}(h:bE xs i=some v):∃j,seqIndex? i xs.length=some j/\xs[j]?=some v/\j<xs.length/\-(xs.length:Int)<=i/\i<xs.length:=by
 unfold bE at h;cases e:cL xs.length i with
 |none=>rw[e]at h;cases h
 |some j=>
  rw[e]at h;obtain⟨h1,h2,h3,h4⟩:=yV e;exact⟨j,h1,h,h2,h3,h4⟩
def gQ{α:Type}{xs:List α}{j:Nat}{v:α}(h:xs[j]?=some v):bE xs (j:Int)=some v:=by
 have hj:j<xs.length:=(List.getElem?_eq_some_iff.mp h).1;have e:cL xs.length (j:Int)=some j:=by
  unfold cL;rw[mD (by omega),mD (by omega)];simp
 unfold bE;rw[e];exact h
noncomputable def oU(b:Expr):Prop:=∀o i,subscripted b false o i=operate [o,i] (getItem o i)
noncomputable def yW(X:Cx)(r:R2):Prop:=
 ∀(value slice:Expr) (pins:List (Addr×Obj)) (s:Shared) (σ:St) (H:Hp) (x y:V) (v u:Value) (Q:VK),Inv X pins σ H s->RelV x v->RelV y u->r x y H Q->
  subscripted slice false v u=operate [v,u] (getItem v u)->wpAny (model X.prog X.w) X.A (subscriptTail value slice v u) (EP X pins σ Q) X.xe s
noncomputable def uA(X:Cx)(id:String)(r:V->List V->Hp->VK->Prop):Prop:=
 ∀(pins:List (Addr×Obj)) (s:Shared) (σ:St) (H:Hp) (x:V) (xs:List V) (v:Value) (us:List Value) (Q:VK),Inv X pins σ H s->RelV x v->Vals xs us->r x xs H Q->
  wpAny (model X.prog X.w) X.A (call (.builtin id) (v :: us)) (EP X pins σ Q) X.xe s
section
variable{X:Cx}{a b:Expr}{ta tb:TE}{pos:Pos}
def Hl{r:R2}(hr:yW X r)(ha:PE X a ta)(hb:PE X b tb)(hs:oU b):PE X (.Subscript a b pos) (Cj r ta tb):=by
 intro pins s σ H Q I h;exact Subscript_ (AA ha hb I h λv u s2 x y H2 I2 rx ry q=>hr a b pins s2 σ H2 x y v u Q I2 rx ry q (hs _ _))
noncomputable def Vr(K:PySem.W.Frag):R2:=λx y H Q=>∃p xs i v,x=.ref p/\y=.int i/\eL K H p xs/\bE xs i=some v/\Q v H
noncomputable def Vs(K:PySem.W.Frag):R2:=λx y H Q=>∃p xs i v,x=.ref p/\y=.int i/\dJ K H p xs/\bE xs i=some v/\Q v H
noncomputable def Vt:R2:=λx y H Q=>∃z i c,x=.str z/\y=.int i/\z.length<=sizeLine/\bE z.cps.toList i=some c/\Q (.str ⟨#[c]⟩) H
def JF:yW X (Vr X.K):=by
 intro value slice pins s σ H x y v u Q I rx ry h hs;obtain⟨p,xs,i,z,rfl,rfl,hq,he,q⟩:=h;cases rx;obtain⟨t,rfl⟩:=ry;obtain⟨its,r,pl,hz⟩:=I.list hq;obtain⟨j,h1,h2,h3,h4,h5⟩:=sP he;obtain⟨w,ew,rw'⟩:=r.get h2;have hl:=r.length;have hn:=ki;have fin:EP X pins σ Q w s:=⟨z,H,I,rw',q⟩
 by_cases h0:0<=i
 .have hj:i.toNat=j:=by
   rw[seqIndex_of h0 h5]at h1;exact PV h1
  exact item_listR pl.isList h0 (by omega) (by rw[hj];simpa using ew) fin hs
 .have hj:(i+(its.toArray.size:Int)).toNat=j:=by
   rw[seqIndex_neg (by omega) h4]at h1;rw[iy,<-hl];exact PV h1
  exact subscriptTail_builtinR (x:=w) pl.isList.typeIs slot_list_getitem.lookup
   (wpAny_getItem_list_neg (Q:=λr s'=>r=w/\EP X pins σ Q r s') pl.isList (by omega) (by rw[iy]<;>omega) (by omega) (by rw[hj];simpa using ew) ⟨rfl,fin⟩) hs
def MC:yW X (Vs X.K):=by
 intro value slice pins s σ H x y v u Q I rx ry h hs;obtain⟨p,xs,i,z,rfl,rfl,hq,he,q⟩:=h;cases rx;obtain⟨t,rfl⟩:=ry;obtain⟨its,r,pl,hz⟩:=I.tuple hq;obtain⟨j,h1,h2,h3,h4,h5⟩:=sP he;obtain⟨w,ew,rw'⟩:=r.get h2;have hl:=r.length;have hn:=ki;have fin:EP X pins σ Q w s:=⟨z,H,I,rw',q⟩
 exact subscriptTail_builtinR (x:=w) pl.typeIs slot_tuple_getitem.lookup
  (getItem_tuple (j:=j) (Q:=λr s'=>r=w/\EP X pins σ Q r s') pl (by omega) (by omega) (by rw[iy,<-hl];exact h1) (by simpa using ew) ⟨rfl,fin⟩) hs
def MD:yW X Vt:=by
 intro value slice pins s σ H x y v u Q I rx ry h hs;obtain⟨z,i,c,rfl,rfl,hz,he,q⟩:=h;obtain⟨t,rfl⟩:=rx;obtain⟨t',rfl⟩:=ry;obtain⟨j,h1,h2,h3,h4,h5⟩:=sP he;have hl:z.cps.toList.length=z.length:=by simp[Str.length]
 rw[hl]at h1 h4 h5;have hn:=ki;exact tail_any (typeIs_str s z t) slot_str_getitem.lookup (getItem_str (c:=c) (by
  have e1:decide (i < -(2 ^ 63:Int))=false:=aad (by omega);have e2:decide (i≥2 ^ 63)=false:=aad (by omega);rw[e1,e2,Bool.or_false]) (by rw[h1];simpa using h2) ⟨.str ⟨#[c]⟩,H,I.tok _,⟨_,rfl⟩,q⟩) hs
def AG (its:List Value) (n j:Nat) (u:Value):Obj.mapSeq (·.setIfInBounds j u) { cls:=.type "list",data:=.seq its.toArray n }={ cls:=.type "list",data:=.seq (its.set j u).toArray n }:=by
 simp[Obj.mapSeq]
theorem Inv.lst{pins:List (Addr×Obj)}{σ:St}{H:Hp}{s:Shared}{p:Addr}{xs:List V}(I:Inv X pins σ H s)(h:H p=some (.lst xs)) :
  ∃(its:List Value) (n:Nat),Vals xs its/\s.heap.get? p=some { cls:=.type "list",data:=.seq its.toArray n }/\xs.length<=sizeLine:=by
 obtain⟨z,its,n,r,e⟩:=I.hok p _ h;exact⟨its,n,r,e,z⟩
def Inv.MF{pins:List (Addr×Obj)}{σ:St}{H:Hp}{s:Shared}{p:Addr}{xs ys:List V}{its its':List Value}{n n':Nat}{f:Obj->Obj}(I:Inv X pins σ H s)(h:H p=some (.lst xs))
  (ho:s.heap.get? p=some { cls:=.type "list",data:=.seq its.toArray n }) (hf:f { cls:=.type "list",data:=.seq its.toArray n }={ cls:=.type "list",data:=.seq its'.toArray n' }) (r:Vals ys its') (hz:ys.length<=sizeLine) (t:Nat) :
  Inv X pins σ (upd H p (.lst ys)) { s with heap:=s.heap.update p f,toks:=t }:=by
 have e:(s.heap.update p f).get? p=some { cls:=.type "list",data:=.seq its'.toArray n' }:=by
  rw[aaP f ho (by rw[hf]<;>rfl),hf]
 refine I.write (x:=p) (e:=p) (by rw[h];trivial) (.inl rfl) (λb u hb q=>(aa8 _ _ (aa1 hb)).trans q) ⟨_,e⟩ ?_;exact⟨hz,its',n',r,e⟩
noncomputable def Rn:V->V->V->Hp->(Hp->Prop)->Prop:=λo i v H Q=>∃p xs k j,o=.ref p/\i=.int k/\H p=some (.lst xs)/\cL xs.length k=some j/\Q (upd H p (.lst (xs.set j v)))
def set_list:Mf X Rn:=by
 intro pins s σ H o i v ov iv u Q I ro ri rv h;obtain⟨p,xs,k,j,rfl,rfl,hp,hj,q⟩:=h;cases ro;obtain⟨t,rfl⟩:=ri;obtain⟨its,n,r,ho,hz⟩:=I.lst hp;obtain⟨h1,h2,h3,h4⟩:=yV hj;have hl:=r.length;have hn:=ki;have I':Inv X pins σ (upd H p (.lst (xs.set j v))) { s with heap:=s.heap.update p (Obj.mapSeq (·.setIfInBounds j u))}:=
  I.MF hp ho (AG its n j u) (r.set rv j) (by rw[List.length_set];exact hz) s.toks
 by_cases h0:0<=k
 .have hk:k.toNat=j:=by
   rw[seqIndex_of h0 h4]at h1;exact PV h1
  exact PySem.W.ki_setAt ho h0 (by omega) (by rw[iy,<-hl];exact h4) (by rw[hk];exact⟨_,I',q⟩)
 .have hk:(k+(its.toArray.size:Int)).toNat=j:=by
   rw[seqIndex_neg (by omega) h3]at h1;rw[iy,<-hl];exact PV h1
  exact PySem.W.ki_setBack ho (by omega) (by rw[iy,<-hl];exact h3) (by omega) (by rw[hk];exact⟨_,I',q⟩)
def vO(lo hi:Option Int)(n:Nat):(sliceBounds lo hi none n).1=((HT.aP n 0 lo:Nat):Int)/\(sliceBounds lo hi none n).2.1=((HT.aP n n hi:Nat):Int)/\(sliceBounds lo hi none n).2.2=1:=by
 refine⟨?_,?_,rfl⟩
 .cases lo with
  |none=>simp[sliceBounds,HT.aP]
  |some i=>
   simp only[sliceBounds,HT.aP,Option.getD_none,show(1:Int) > 0 by decide,aan];by_cases h:i<0
   .simp only[h,aan]<;>omega
   .simp only[h,aa2]<;>omega
 .cases hi with
  |none=>simp[sliceBounds,HT.aP]
  |some i=>
   simp only[sliceBounds,HT.aP,Option.getD_none,show(1:Int) > 0 by decide,aan];by_cases h:i<0
   .simp only[h,aan]<;>omega
   .simp only[h,aa2]<;>omega
def u7(its:List Value)(lo hi:Option Int):slicePick its.toArray lo hi none=((its.drop (HT.aP its.length 0 lo)).take (HT.aP its.length its.length hi - HT.aP its.length 0 lo)).toArray:=by
 obtain⟨h1,h2,h3⟩:=vO lo hi its.toArray.size;unfold slicePick;rw[h1,h2,h3];simp only[sliceRange_one,pick_run,iy]<;>rfl
noncomputable def Vu(K:PySem.W.Frag):V->Option Int->Option Int->Hp->VK->Prop:=λx lo hi H Q=>∃a xs,x=.ref a/\eL K H a xs/\∀p,H p=none->Q (.ref p) (upd H p (.lst (nI xs lo hi)))
def JH:lT X (Vu X.K):=by
 intro pins s σ H x v vl vu lo hi sl Q I rx hs pl pu h;obtain⟨a,xs,rfl,hx,q⟩:=h;cases rx;obtain⟨its,r,ht,hz⟩:=I.list hx;have hlen:=r.length;refine⟨"list",_,slot_list_getitem.lookup,ht.isList.typeIs,?_⟩;refine wpAny_getItem_list_slice ht.isList hs pl pu .none (by simp) ?_ (by rw[iy]<;>omega);rw[u7,<-hlen];refine⟨.ref s.heap.objs.size,_,I.laid (t':=s.toks) (o:=.lst (nI xs lo hi)) (λb ob q=>vz _ q) (Ad _) ?_,rfl,q _ (I.hok.fresh (Ad _))⟩;exact⟨aaf (pT xs lo hi) hz,_,0,(r.drop (HT.aP xs.length 0 lo)).take (HT.aP xs.length xs.length hi - HT.aP xs.length 0 lo),aac _ rfl⟩
noncomputable def vf:V->Bool
 |.aU=>true
 |.bl _=>true
 |.int _=>true
 |.str _=>true
 |_=>false
def nJ:fy X (.builtin "len") (λxs H Q=>∃p ys,xs=[.ref p]/\(eL X.K H p ys\/dJ X.K H p ys)/\Q (.int ys.length) H):=by
 intro pins s σ H xs us Q I r h;obtain⟨p,ys,rfl,hq,q⟩:=h;obtain⟨u,rfl,rx⟩:=vals1 r;cases rx;have hn:=ki;rcases hq with hq|hq
 .obtain⟨its,r',pl,hz⟩:=I.list hq;have hlen:=r'.length;exact Calls.call_len_list pl.isList (by simp only[iy]<;>omega) ⟨.int ys.length,H,I.tok _,⟨s.toks+1,by rw[iy,hlen]⟩,q⟩
 .obtain⟨its,r',pl,hz⟩:=I.tuple hq;have hlen:=r'.length;exact len_tuple pl (by simp only[iy]<;>omega) ⟨.int ys.length,H,I.tok _,⟨s.toks+1,by rw[iy,hlen]⟩,q⟩
def vP:fy X (.builtin "len") (λxs H Q=>∃z,xs=[.str z]/\z.length<=sizeLine/\Q (.int z.length) H):=by
 intro pins s σ H xs us Q I r h;obtain⟨z,rfl,hz,q⟩:=h;obtain⟨u,rfl,t,rfl⟩:=vals1 r;have hn:=ki;exact abe (by omega) ⟨.int z.length,H,I.tok _,⟨_,rfl⟩,q⟩
def nK:fy X (.type "list") (λxs H Q=>∃p ys,xs=[.ref p]/\(eL X.K H p ys\/dJ X.K H p ys)/\∀l,H l=none->Q (.ref l) (upd H l (.lst ys))):=by
 intro pins s σ H xs us Q I r h;obtain⟨p,ys,rfl,hq,q⟩:=h;obtain⟨u,rfl,rx⟩:=vals1 r;cases rx;have fin:∀(its:List Value),Vals ys its->ys.length<=sizeLine->∀(h':Heap) (c':Nat),(∀b o',s.heap.get? b=some o'->h'.get? b=some o')->
   h'.get? s.heap.objs.size=some { cls:=.type "list",dict:=none,data:=.seq its.toArray c',slots:=#[]}->EP X pins σ Q (.ref s.heap.objs.size) { s with heap:=h' }:=λits r' hz h' c' kp e=>
  ⟨.ref s.heap.objs.size,_,I.laid (t':=s.toks) kp (Ad _) (show cR X.prog X.w _ h' _ (.lst ys)from ⟨hz,its,c',r',e⟩),rfl,q _ (I.hok.fresh (Ad _))⟩
 rcases hq with hq|hq
 .obtain⟨its,r',pl,hz⟩:=I.list hq;have hlen:=r'.length;obtain⟨o,ho,hc,n,hd⟩:=pl.isList;exact call_list_seq p (.inl rfl) ho hc hd (λh' c' kp e=>fin its r' hz h' c' kp e) (by simp only[iy]<;>omega)
 .obtain⟨its,r',pl,hz⟩:=I.tuple hq;have hlen:=r'.length;obtain⟨o,ho,hc,n,hd⟩:=pl;exact call_list_seq p (.inr rfl) ho hc hd (λh' c' kp e=>fin its r' hz h' c' kp e) (by simp only[iy]<;>omega)
def m9:fy X (.type "tuple") (λxs H Q=>∃p ys,xs=[.ref p]/\((eL X.K H p ys/\∀l,H l=none->Q (.ref l) (upd H l (.tup ys)))\/(dJ X.K H p ys/\Q (.ref p) H))):=by
 intro pins s σ H xs us Q I r h;obtain⟨p,ys,rfl,h⟩:=h;obtain⟨u,rfl,rx⟩:=vals1 r;cases rx;rcases h with ⟨hq,q⟩|⟨hq,q⟩
 .obtain⟨its,r',pl,hz⟩:=I.list hq;have hlen:=r'.length;refine call_tuple_list pl.isList (λh' kp=>?_) (by simp only[iy]<;>omega);have I1:Inv X pins σ H { s with heap:=h' }:=I.kept (t':=s.toks) kp;have I2:Inv X pins σ (upd H h'.objs.size (.tup ys)) { s with heap:=h'.push { cls:=.type "tuple",data:=.seq its.toArray }}:=
   I1.laid (t':=s.toks) (λb o e=>vz _ e) (Ad _) (show cR X.prog X.w _ _ _ (.tup ys)from ⟨hz,its,r',IsTup.new _ _⟩)
  exact⟨.ref h'.objs.size,_,I2,rfl,q _ (I1.hok.fresh (Ad _))⟩
 .obtain⟨its,r',pl,hz⟩:=I.tuple hq;exact call_tuple_same pl ⟨.ref p,H,I,rfl,q⟩
noncomputable def Cp(K:PySem.W.Frag)(T:String)(x:V)(H:Hp):Prop:=match x with
 |.str _=>T = "str"
 |.int _=>T = "int"
 |.ref p=>(T = "list" /\∃xs,eL K H p xs)\/(T = "tuple" /\∃o,K.lookup p=some o/\o.cls=.type "tuple" /\o.dict=none)\/
   (T = "dict" /\((∃kvs,H p=some (.dK kvs))\/∃kvs,H p=some (.dT kvs)))\/(T = "set" /\∃S n,H p=some (.set S n))
 |_=>False
def Cq{pins:List (Addr×Obj)}{σ:St}{H:Hp}{s:Shared}{T:String}{x:V}{v:Value}(I:Inv X pins σ H s)(r:RelV x v)(ty:Cp X.K T x H) :
  s.TypeIs v T/\∀a,v=.ref a->∃ob,s.heap.get? a=some ob/\ob.dict=none:=by
 cases x with
 |str z=>
  obtain⟨t,rfl⟩:=r;cases (show T = "str" from ty);exact⟨typeIs_str s z t,λ_ e=>nomatch e⟩
 |int i=>
  obtain⟨t,rfl⟩:=r;cases (show T = "int" from ty);exact⟨ach s i t,λ_ e=>nomatch e⟩
 |ref p=>
  cases r;rcases ty with ⟨rfl,xs,hq⟩|⟨rfl,o,hk,hc,hd⟩|⟨rfl,hk⟩|⟨rfl,S,n,hk⟩
  .obtain⟨its,_,pl,_⟩:=I.list hq;refine⟨pl.isList.typeIs,λa e=>?_⟩;cases e;obtain⟨o,n,e,c,hd,_⟩:=pl;exact⟨o,e,hd⟩
  .refine⟨⟨o,I.jE p o hk,hc⟩,λa e=>?_⟩;cases e;exact⟨o,I.jE _ o hk,hd⟩
  .have z:∃o,s.heap.get? p=some o/\o.ExactDict:=by
    rcases hk with ⟨kvs,hk⟩|⟨kvs,hk⟩
    .obtain⟨_,_,_,_,o,_,_,e,ex,_⟩:=I.hok p _ hk;exact⟨o,e,ex⟩
    .obtain⟨_,_,_,_,o,_,_,e,ex,_⟩:=I.hok p _ hk;exact⟨o,e,ex⟩
   obtain⟨o,e,ex⟩:=z;refine⟨⟨o,e,ex.1⟩,λa e2=>?_⟩;cases e2;exact⟨o,e,ex.2.1⟩
  .obtain⟨o,_,_,_,e,ex,_⟩:=I.hok p _ hk;refine⟨⟨o,e,ex.1⟩,λa e2=>?_⟩;cases e2;exact⟨o,e,ex.2.1⟩
 |_=>exact False.elim ty
noncomputable def Vv(K:PySem.W.Frag)(T:String)(r:V->List V->Hp->VK->Prop)(to:TE):TE:=λσ H Q=>to σ H λx H1=>Cp K T x H1/\r x [] H1 Q
noncomputable def W4(K:PySem.W.Frag)(T:String)(r:V->List V->Hp->VK->Prop)(to:TE)(t:TA):TE:=λσ H Q=>to σ H λx H1=>Cp K T x H1/\t σ H1 λxs H2=>r x xs H2 Q
variable{o e:Expr}{es:List Expr}{to:TE}{t:TA}{name:Str}{apos cpos:Pos}{T id:String}{r:V->List V->Hp->VK->Prop}
def MG (pa:PlainAttrs T) (slot:Slot T name id) (hty:typeOf (.builtin id)=pure (.type "method_descriptor")) (hm:uA X id r) (ho:PE X o to)
  (hbase:attributeBase o name X.env (eval o X.env)=eval o X.env:=by rfl) (hline:(apos.endLine==cpos.line)=true:=by rfl):PE X (.Call (.Attribute o name apos) [] [] cpos) (Vv X.K T r to):=by
 intro pins s σ H Q I h;refine wpAny_Call_method0_late hbase hline (bC (ho pins s σ H _ I h) λv s1 ⟨x,H1,I1,r1,ty,q1⟩=>?_);obtain⟨h1,h2⟩:=Cq I1 r1 ty;exact⟨T,id,pa,slot,hty,h1,h2,Calls.callWith_builtin rfl (PySem.evalArgs_none (hm pins s1 σ H1 x [] v [] Q I1 r1 .nil q1))⟩
def Ro (pa:PlainAttrs T) (slot:Slot T name id) (hty:typeOf (.builtin id)=pure (.type "method_descriptor")) (hm:uA X id r) (ho:PE X o to) (ha:PA X (e :: es) t)
  (hbase:attributeBase o name X.env (eval o X.env)=eval o X.env:=by rfl)
  (hfew:((backTo cpos (starEach (e :: es) X.env)).all (λx=>!x.1)&&(backToKw cpos (keywordEach [] X.env)).all (λx=>x.1.isSome)
   &&decide ((e :: es).length+([]:List Keyword).length+(if ([]:List Keyword).isEmpty then 0 else 1)<30))=true:=by rfl)
  (hline:(apos.endLine==cpos.line)=true:=by rfl) (hs:starEach (e :: es) X.env=(false,eval e X.env) :: starEach es X.env:=by rfl) (hplain:(backTo cpos (starEach es X.env)).any (·.1)=false:=by rfl) :
  PE X (.Call (.Attribute o name apos) (e :: es) [] cpos) (W4 X.K T r to t):=by
 intro pins s σ H Q I h;refine abN hbase hfew hline rfl (bC (ho pins s σ H _ I h) λv s1 ⟨x,H1,I1,r1,ty,q1⟩=>?_);obtain⟨h1,h2⟩:=Cq I1 r1 ty;refine⟨T,id,pa,slot,hty,h1,h2,?_⟩;have hA:=ha cpos pins s1 σ H1 _ I1 q1;rw[hs]at hA ⊢;refine Calls.callWith_builtin (by show(false || (backTo cpos (starEach es X.env)).any (·.1))=false;rw[hplain]<;>rfl) (Calls.evalArgs_plain ?_);exact bC hA λus s2 ⟨vs,H2,I2,r2,q2⟩=>hm pins s2 σ H2 x vs v us Q I2 r1 r2 q2
end
noncomputable def MH(X:Cx)(id:String)(r:V->List V->Hp->VK->Prop):Prop:=
 ∀(pins:List (Addr×Obj)) (s:Shared) (σ:St) (H:Hp) (x:V) (xs:List V) (v:Value) (us:List Value) (Q:VK),Inv X pins σ H s->RelV x v->Vals xs us->r x xs H Q->
  wpAny (model X.prog X.w) X.A (call (.builtin id) (v :: us)) (EP X pins σ Q) X.xe s
def Vals.one:∀{x:V}{us:List Value},Vals [x] us->∃u,us=[u]/\RelV x u
 |_,_,.cons r .nil=>⟨_,rfl,r⟩
def Vals.zero:∀{us:List Value},Vals [] us->us=[]
 |_,.nil=>rfl
theorem Vals.dropLast{xs:List V}{us:List Value}(h:Vals xs us):Vals xs.dropLast us.dropLast:=by
 induction h with
 |nil=>exact .nil
 |cons r t ih=>
  cases t with
  |nil=>exact .nil
  |cons q t'=>exact .cons r ih
theorem Vals.reverse{xs:List V}{us:List Value}(h:Vals xs us):Vals xs.reverse us.reverse:=by
 induction h with
 |nil=>exact .nil
 |cons r t ih=>rw[aay,aay];exact Vals.append ih (.cons r .nil)
theorem Vals.rep{xs:List V}{us:List Value}(h:Vals xs us):∀k:Nat,Vals (List.replicate k xs).flatten (List.replicate k us).flatten
 |0=>.nil
 |k+1=>by
  rw[xZ,xZ,aaW,aaW];exact Vals.append h (Vals.rep h k)
def AH{α:Type}(l:List α):l.eraseIdx (l.length - 1)=l.dropLast:=by
 induction l with
 |nil=>rfl
 |cons a r ih=>
  cases r with
  |nil=>rfl
  |cons b r=>
   have e:(a :: b :: r).length - 1=((b :: r).length - 1)+1:=by
    have h1:(a :: b :: r).length=r.length+2:=rfl;have h2:(b :: r).length=r.length+1:=rfl;omega
   rw[e,List.eraseIdx_cons_succ,ih];all_goals rfl
theorem foldl_rep(its:List Value):∀(k:Nat) (acc:List Value),
  List.foldl (λx1 x2=>x1++x2) acc.toArray (List.replicate k its.toArray)=(acc++(List.replicate k its).flatten).toArray
 |0,acc=>by simp
 |k+1,acc=>by
  have e:acc.toArray++its.toArray=(acc++its).toArray:=by simp
  have e2:(acc++its)++(List.replicate k its).flatten=acc++(List.replicate (k+1) its).flatten:=by
   rw[xZ,aaW,aar]
  rw[<-e2,<-foldl_rep its k (acc++its),<-e,xZ,aaJ]
section
variable{X:Cx}{pins:List (Addr×Obj)}{σ:St}{H:Hp}{s:Shared}{l:Addr}{xs ys:List V}
def Inv.EZ{its its':List Value}{n:Nat}{f:Array Value->Array Value}{t':Nat}(I:Inv X pins σ H s)(hH:H l=some (.lst xs))
  (e:s.heap.get? l=some { cls:=.type "list",data:=.seq its.toArray n }) (hf:f its.toArray=its'.toArray) (hv:Vals ys its') (hz:ys.length<=sizeLine) :
  Inv X pins σ (upd H l (.lst ys)) { s with heap:=s.heap.update l (Obj.mapSeq f),toks:=t' }:=by
 have q:=PySem.IsL.update e f;rw[hf]at q;refine I.write (x:=l) (e:=l) (by rw[hH];exact trivial) (.inl rfl) (λb' u hb hu=>(aa8 s.heap (Obj.mapSeq f) (aa1 hb)).trans hu) ⟨_,q⟩ ?_;exact⟨hz,its',_,hv,q⟩
def Inv.E1{its:List Value}{t':Nat}(I:Inv X pins σ H s)(hv:Vals ys its)(hz:ys.length<=sizeLine) :
  Inv X pins σ (upd H s.heap.objs.size (.lst ys)) { s with heap:=s.heap.push { cls:=.type "list",data:=.seq its.toArray },toks:=t' }:=
 I.laid (λ_ _ q=>vz _ q) (Ad _) ⟨hz,its,0,hv,aac _ rfl⟩
theorem Inv.fresh(I:Inv X pins σ H s):H s.heap.objs.size=none:=I.hok.fresh (Ad _)
def Inv.mQ (I:Inv X pins σ H s) (hH:H l=some (.lst xs)):xs.length<=sizeLine/\∃(its:List Value) (n:Nat),Vals xs its/\xs.length=its.length/\s.heap.get? l=some { cls:=.type "list",data:=.seq its.toArray n }:=by
 obtain⟨z,its,n,r,e⟩:=I.hok l _ hH;exact⟨z,its,n,r,r.length,e⟩
def vQ{n:Nat}(h:n<=sizeLine):Builtin.List.listTooLong n=false:=by
 unfold Builtin.List.listTooLong;exact aad (by omega)
end
section
variable{X:Cx}
noncomputable def JJ:V->List V->Hp->VK->Prop:=λx vs H Q=>∃l xs y,x=.ref l/\vs=[y]/\H l=some (.lst xs)/\xs.length<sizeLine/\Q .aU (upd H l (.lst (xs++[y])))
def uB:MH X "list.append" JJ:=by
 intro pins s σ H x vs v us Q I rx rv h;obtain⟨l,xs,y,rfl,rfl,hH,hz,q⟩:=h;cases rx;obtain⟨u,rfl,ru⟩:=rv.one;obtain⟨z,its,n,r,hl,e⟩:=I.mQ hH;refine abj F.slot_list_append ⟨_,e,rfl⟩ F.entry_list_append (F.args_list_append_2 _ _) (PySem.list_append l its.toArray n u (by rw[iy];omega)) ⟨e,?_⟩;refine⟨.aU,_,I.EZ (its':=its++[u]) hH e (by simp) (r.append (.cons ru .nil)) ?_,rfl,q⟩;rw[PX,aav];omega
noncomputable def JK:V->List V->Hp->VK->Prop:=λx vs H Q=>∃l b xs zs,x=.ref l/\vs=[.ref b]/\H l=some (.lst xs)/\H b=some (.lst zs)/\xs.length+zs.length<=sizeLine/\Q .aU (upd H l (.lst (xs++zs)))
def Cr:MH X "list.extend" JK:=by
 intro pins s σ H x vs v us Q I rx rv h;obtain⟨l,b,xs,zs,rfl,rfl,hH,hB,hz,q⟩:=h;cases rx;obtain⟨u,rfl,ru⟩:=rv.one;cases ru;obtain⟨z,its,n,r,hl,e⟩:=I.mQ hH;obtain⟨z2,its2,n2,r2,hl2,e2⟩:=I.mQ hB;have hsz:its.toArray.size+its2.toArray.size<=sizeLine:=by rw[iy,iy];omega
 have AI:¬ (!its.toArray.isEmpty&&Builtin.List.listTooLong (its.toArray.size+its2.toArray.size))=true:=by
  rw[vQ hsz,Bool.and_false];exact aau
 refine abj F.slot_list_extend ⟨_,e,rfl⟩ F.entry_list_extend (F.args_list_extend_2 _ _)
  (AutoSeq1.list_extend_list_list_0 l its.toArray n b its2.toArray n2 AI (by rw[iy];omega) (by omega)) ⟨e,e2,?_⟩
 refine⟨.aU,_,I.EZ (its':=its++its2) hH e (by simp) (r.append r2) ?_,rfl,q⟩;rw[PX];omega
noncomputable def Vw:V->List V->Hp->VK->Prop:=λx vs H Q=>∃l xs y,x=.ref l/\vs=[]/\H l=some (.lst xs)/\xs[xs.length - 1]?=some y/\Q y (upd H l (.lst xs.dropLast))
def MI:MH X "list.pop" Vw:=by
 intro pins s σ H x vs v us Q I rx rv h;obtain⟨l,xs,y,rfl,rfl,hH,hy,q⟩:=h;cases rx;have W5:=rv.zero;subst W5;obtain⟨z,its,n,r,hl,e⟩:=I.mQ hH;obtain⟨u,hu,ru⟩:=r.get hy;have hy':its.toArray[its.toArray.size - 1]?=some u:=by
  show its.toArray[its.length - 1]?=some u;rw[<-Array.getElem?_toList,<-hl];exact hu
 refine abj F.slot_list_pop ⟨_,e,rfl⟩ F.entry_list_pop (F.args_list_pop_1 _) (MeetsSeq.list_pop_last l its.toArray n u hy' (by rw[iy];omega)) ⟨e,?_⟩;refine⟨y,_,I.EZ (its':=its.dropLast) hH e ?_ r.dropLast ?_,ru,q⟩
 .show its.toArray.eraseIdxIfInBounds (its.toArray.size - 1)=its.dropLast.toArray;rw[iy,List.eraseIdxIfInBounds_toArray,AH]
 .rw[List.length_dropLast];omega
noncomputable def Vx:R2:=λx y H Q=>∃l b xs zs,x=.ref l/\y=.ref b/\H l=some (.lst xs)/\H b=some (.lst zs)/\xs.length+zs.length<=sizeLine/\∀p,H p=none->Q (.ref p) (upd H p (.lst (xs++zs)))
def Cs:ek X (binaryOp .Add) Vx:=by
 intro pins s σ H x y v u Q I rx ry h;obtain⟨l,b,xs,zs,rfl,rfl,hH,hB,hz,q⟩:=h;cases rx;cases ry;obtain⟨z,its,n,r,hl,e⟩:=I.mQ hH;obtain⟨z2,its2,n2,r2,hl2,e2⟩:=I.mQ hB;refine PySem.P.add_list e e2 ?_ (by rw[iy,iy];omega);have ea:its.toArray++its2.toArray=(its++its2).toArray:=by simp
 rw[ea];exact⟨.ref _,_,I.E1 (t':=s.toks) (r.append r2) (by rw[PX];omega),rfl,q _ I.fresh⟩
noncomputable def Vy:R2:=λx y H Q=>∃l k xs,x=.ref l/\y=.int k/\H l=some (.lst xs)/\-(2 ^ 63)<=k/\k<2 ^ 63/\xs.length*k.toNat<=sizeLine/\
 ∀p,H p=none->Q (.ref p) (upd H p (.lst (List.replicate k.toNat xs).flatten))
def len_rep{α:Type}(xs:List α)(k:Nat):(List.replicate k xs).flatten.length=k*xs.length:=by
 induction k with
 |zero=>simp
 |succ k ih=>rw[xZ,aaW,PX,ih,Nat.succ_mul,aco]
def MJ:ek X (binaryOp .Mult) Vy:=by
 intro pins s σ H x y v u Q I rx ry h;obtain⟨l,k,xs,rfl,rfl,hH,h1,h2,hz,q⟩:=h;cases rx;obtain⟨t,rfl⟩:=ry;obtain⟨z,its,n,r,hl,e⟩:=I.mQ hH;have hlen:its.toArray.size*k.toNat<=sizeLine:=by rw[iy,<-hl];exact hz
 have hcap:¬ its.toArray.size*k.toNat > (2 ^ 63 - 1) / 8:=by
  have:(sizeLine:Nat)<=(2 ^ 63 - 1) / 8:=by decide
  omega
 have hfit:¬ (!Builtin.List.listFitsIndex k)=true:=by
  rw[fitsIndex_both h1 h2];exact aau
 have AI:¬ Builtin.List.listTooLong (its.toArray.size*k.toNat)=true:=by
  rw[vQ hlen];exact aau
 have hnew:List.foldl (λx1 x2=>x1++x2) #[] (List.replicate (if its.toArray.isEmpty=true then 0 else k.toNat) its.toArray)=(List.replicate k.toNat its).flatten.toArray:=by
  have f0:∀m:Nat,List.foldl (λx1 x2=>x1++x2) #[] (List.replicate m its.toArray)=(List.replicate m its).flatten.toArray:=λm=>by
   have:=foldl_rep its m [];rw[aaV]at this;exact this
  rw[f0];cases its with
  |nil=>simp
  |cons a r'=>rw[Yv (by simp)]
 refine aci (T:="list") (U:="int") (by decide) ⟨_,e,rfl⟩ (λs'=>ach s' k t) noFill_list_mul F.fills_int_mul F.slot_int_rmul repeat_list F.slot_int_index.lookup
  (abj F.slot_int_rmul (ach s k t) F.entry_int_rmul (F.args_int_rmul_2 _ _) (int___rmul___int_list k t l its.toArray n)
   ⟨e,rfl,⟨_,e,rfl⟩,abj F.slot_list_mul ⟨_,e,rfl⟩ F.entry_list_mul (F.args_list_mul_2 _ _) (AutoListH.list___mul___list_int_3 l its.toArray n k t hfit hcap AI) ⟨e,?_⟩⟩)
 rw[hnew];exact⟨.ref _,_,I.E1 (t':=s.toks) (r.rep k.toNat) (by rw[len_rep,Nat.mul_comm];exact hz),rfl,q _ I.fresh⟩
end
end L2
namespace Ua
open PySem PySem.W PySem.Calls PyProof.Rows
def qU{P:Params}{h:Heap}:∀(ns:List Int) (vs:List Value),WellAll P h vs (ns.map WData.int)->IntsAre vs ns:=by
 intro ns;induction ns with
 |nil=>
  intro vs w;rw[abA]at w;cases w;exact .nil
 |cons n ns ih=>
  intro vs w;rw[aaa]at w;cases w with
  |cons a b=>
   cases a;exact .cons _ _ (ih _ b)
def Ct{l:OpenLaw}{n:Nat}(hn:l.most=some n){P:Params}{h:Heap}{args:List WData}{vals:List Value}
  (hpre:l.row.toRowW.claim.pre args=true) (hwl:WellAll P h vals args) :
  ∃a vs ns,vals=[Value.ref a]/\args=[WData.list (ns.map WData.int)]/\h.get? a=some { cls:=.type "list",data:=.seq vs.toArray }/\IntsAre vs ns/\ns.length<=n:=by
 have hsh:WShape.hasAll [] args [.list .int]=true:=(pre_splitW hpre).1;have hc:l.pre.holds [] { args:=args }=true:=(pre_splitW hpre).2;obtain⟨d,r,rfl,h1,h2⟩:=hasAllW_cons hsh;obtain rfl:=hasAllW_nil h2;obtain⟨xs,rfl,h3⟩:=hasW_list h1;obtain⟨ns,rfl⟩:=items_int h3;have hlen:ns.length<=n:=by
  unfold OpenLaw.pre at hc;have h4:(WTm.not (.lt (.lit (.int (n:Int))) (.len (.arg 0)))).holds [] { args:=[.list (ns.map .int)]}=true:=by
   have h4:=(holds_andW hc).1;rw[hn]at h4;exact h4
  have h5:=condW_of h4 (w_not (w_lt w_lit (w_len_list (w_arg rfl))));rw[aag]at h5;refine Nat.le_of_not_lt λq=>?_;have q':(n:Int)<((ns.length:Nat):Int):=by omega
  first
   | (rw[aaE q']at h5;exact absurd h5 (by decide))
   | (simp at h5;omega)
 cases hwl with
 |cons w1 w2=>
  cases w2;cases w1 with
  |list ho hall=>exact⟨_,_,ns,rfl,rfl,ho,qU ns _ hall,hlen⟩
def Cu(l:OpenLaw)(args:List WData):l.row.toRowW.claim.post args (.bool true) args=true:=
 postW_of (r:=l.row.toRowW) (X:=(true==true))
  (show WShape.has [] (.bool true) .bool=true by first|rfl|decide|simp[WShape.has,WShape.arms,WShape.armsAll])
  (show(WTm.eq .res (.lit (.bool true))).value [] { args:=args,res:=some (.bool true),after:=args }=some (.bool (true==true))from w_eq_bool (w_res rfl) w_lit) rfl
def yr{l:OpenLaw}{n:Nat}{q:Program}{loose:List Str}{XP:(Str->Option Value)->Heap->Prop}{YP:World->Heap->Prop}{d:DefRec}
  (hn:l.most=some n) (hdf:d.params.defaults=[])
  (call:∀(w:World) (s₀ s₁:Shared) (mg mb:Str->Option Value) (fa:Addr) (o:Obj) (pm cd doc:Value) (a:Addr) (vs:List Value) (ns:List Int),
   Ground q loose [] XP w s₀ mg mb s₁.heap->YP w s₁.heap->
   s₁.heap.get? fa=some o->o.data=.func (docDef d.name d.params d.body d.scope pm cd doc)->s₁.heap.CodeRec cd d.name->mg d.name=some (.ref fa)->
   s₁.heap.get? a=some { cls:=.type "list",data:=.seq vs.toArray }->IntsAre vs ns->ns.length<=n->s₁.gens = #[]->
   codeAny (model l.prog w) callerA (.call (.ref fa) ⟨[.ref a],[]⟩) (λr s'=>r=.ok (.ret (.bool true))/\OldK s₁.heap s'.heap/\s'.os=s₁.os/\AllBare s'.gens) s₁) :
  WalkO q loose XP YP l.row.toRowW d [] (λf vs=>PySem.call f vs):=by
 intro w s₀ s₁ mg mb G Y fa o pm cd doc dV kV ho hd hcd hD hmg hg args vals as hpre hlay hrd hwl hlo;obtain rfl:dV=.none:=Dflts.none hD hdf;obtain rfl:kV=.none:=Dflts.noKw hD;obtain⟨a,vs,ns,rfl,rfl,hobj,hints,hlen⟩:=Ct hn hpre hwl;refine enter_call (abW (call w s₀ s₁ mg mb fa o pm cd doc a vs ns G Y ho (fd_plain hd) hcd hmg hobj hints hlen hg) λr s' hq=>?_);obtain⟨rfl,h2,h3,h4⟩:=hq;exact⟨.inl ⟨.bool true,.bool true,[],rfl,λ_=>rfl,.bool true,Cu l _,λ_=>⟨List.Pairwise.nil,λ_ hm=>(nomatch hm)⟩⟩,h2,h3,h4⟩
end Ua
namespace L2
open PySem PySem.Spec PyProof.Rows
theorem uC:∀{vs:List Value}{ns:List Int},IntsAre vs ns->Vals (ns.map V.int) vs
 |_,_,.nil=>.nil
 |_,_,.cons n t h=>.cons ⟨t,rfl⟩ (uC h)
noncomputable def sQ(H:Hp):Prop:=∀b,H b=none\/∃o xs,H b=some (.bY o (.lst xs))
def E2{P:Program}{w:World}{K:PySem.W.Frag}{mg mb:Str->Option Value}{CX:lS}{k:Nat}{fa a:Addr}{fd:FuncData}{x:Str}{sp:Sp}{s₁:Shared}{vs:List Value}{ns:List Int}
  (KX:K.In s₁.heap) (hns:s₁.heap.Ns mainGlobals mg) (hb:s₁.heap.Ns builtinsNs mb) (MK:∀x:Str,x≠"__name__" ->mb x=bootBuiltins x) (hlim:s₁.heap.NoLimit) (hg:s₁.gens = #[])
  (ha:s₁.heap.get? a=some { cls:=.type "list",data:=.seq vs.toArray }) (hi:IntsAre vs ns) (hl:ns.length<=sizeLine) (hr:fL k callerA)
  (F:∀base:Heap,K.In base->base.Ns mainGlobals mg->fM P w K mg base CX k fa fd [x] sp) (hbind:∀(s:Shared) (u:Value),BindsTo s fd ⟨[u],[]⟩ [(x,u)])
  (iW:∀H:Hp,sQ H->eL K H a (ns.map V.int)->sp [.ref a] H (λv _=>v=.bl true) λ_ _ _=>False)
  (Cv:∀H e s',CX [] H s₁ (λ_ _ _=>False) e s'->False) :
  codeAny (model P w) callerA (.call (.ref fa) ⟨[.ref a],[]⟩) (λr s'=>r=.ok (.ret (.bool true))/\OldK s₁.heap s'.heap/\s'.os=s₁.os/\AllBare s'.gens) s₁:=by
 have rv:=uC hi;have Vz:=hi.length;have core:∀H:Hp,sQ H->eL K H a (ns.map V.int)->ee P w H s₁.heap->(∀b,H b≠none->b=a)->(H a≠none->K.lookup a=none)->
   codeAny (model P w) callerA (.call (.ref fa) ⟨[.ref a],[]⟩) (λr s'=>r=.ok (.ret (.bool true))/\OldK s₁.heap s'.heap/\s'.os=s₁.os/\AllBare s'.gens) s₁:=by
  intro H hO hS hok hA hK;have yX:∀{b:Addr} {o:Obj},s₁.heap.get? b=some o->H b=none->(mK s₁.heap H).get? b=some o:=λe n=>EL e n;have Co:∀{b:Addr} {o:Obj} {es:Array DictEntry} {ep:Nat},s₁.heap.get? b=some o->o.data=.dict es ep->H b=none:=λ{b o es ep} e d=>by
   cases q:H b with
   |none=>rfl
   |some u=>
    have e':b=a:=hA b (by rw[q];simp);subst e';rw[ha]at e;cases e;have d':Data.seq vs.toArray _=Data.dict es ep:=d;cases d'
  have Ho:∀{b:Addr} {m:Str->Option Value},s₁.heap.Ns b m->(mK s₁.heap H).Ns b m:=λ{b m} ⟨o,es,ep,e,d,r⟩=>⟨o,es,ep,yX e (Co e d),d,r⟩
  have Ub:K.In (mK s₁.heap H):=λb o e=>yX (KX b o e) (by
   cases q:H b with
   |none=>rfl
   |some u=>
    have e':b=a:=hA b (by rw[q];simp);subst e';rw[hK (by rw[q];simp)]at e;cases e)
  have hM:Mod K mg (mK s₁.heap H):=⟨Ub,Ho hns,⟨mb,Ho hb,MK⟩,let ⟨mc,h1,h2⟩:=hlim;⟨mc,Ho h1,h2⟩⟩
  have e0:sM P w K mg (mK s₁.heap H) callerA [] s₁ H:=⟨rfl,hM,λb o e=>Jl e,Nat.le_of_eq (B5 _ _),trivial,λb hb=>absurd (show b∈([]:List Addr)from hb) (by simp),hok,.of_eq hg⟩
  refine abW ((F _ Ub (Ho hns)).run callerA [] s₁ H ⟨[.ref a],[]⟩ [.ref a] [.ref a] _ _ hr e0 (hbind s₁ (.ref a)) (.cons rfl .nil) (iW H hO hS)) λr s' h=>?_;cases r with
  |error e=>exact(Cv H e s' h).elim
  |ok fl=>
   cases fl with
   |next=>exact False.elim h
   |brk=>exact False.elim h
   |cont=>exact False.elim h
   |ret u=>
    obtain⟨v,H',os,bare,un,VA,r',q⟩:=h;have q':v=.bl true:=q;subst q';obtain rfl:u=Value.bool true:=r';refine⟨rfl,OldK.of_keep λb o e=>?_,os,bare⟩;cases q:H b with
    |none=>exact un.keep b o e q (by intro z;exact absurd (show b∈([]:List Addr)from z) (by simp)) (by simp)
    |some u=>
     rcases hO b with z|⟨ob,xs,z⟩
     .rw[q]at z;cases z
     .have z2:=un.kh b ob _ z;obtain⟨e1,_⟩:=hok b _ z;obtain⟨e2,_⟩:=VA b _ z2;rw[e]at e1;cases e1;exact e2
 cases hk:K.lookup a with
 |some o=>
  have e:=KX a o hk;rw[ha]at e;cases e;refine core (λ_=>none) (λ_=>.inl rfl) (.inr ⟨_,vs.toArray,_,hk,rfl,rfl,rfl,by rw[iy,Vz];exact hl,by simpa using rv⟩) (λb u z=>by have z':(none:Option HO)=some u:=z;cases z') (λb z=>absurd rfl z) λz=>absurd rfl z
 |none=>
  refine core (λb=>if b=a then some (.bY { cls:=.type "list",data:=.seq vs.toArray } (.lst (ns.map V.int)))else none) (λb=>?_) (.inl (.inr ⟨{ cls:=.type "list",data:=.seq vs.toArray },mD rfl⟩)) (λb u z=>?_) (λb z=>?_) λ_=>hk
  .by_cases hb:b=a
   .exact .inr ⟨_,_,mD hb⟩
   .exact .inl (Yv hb)
  .by_cases hb:b=a
   .have z':=(mD hb).symm.trans z;cases z';subst hb;exact⟨ha,by rw[aag];exact hl,vs,_,rv,ha⟩
   .have z':=(Yv hb).symm.trans z;cases z'
  .by_cases hb:b=a
   .exact hb
   .exact absurd (Yv hb) z
def JL{l:PySem.W.OpenLaw}{n k:Nat}{q:Program}{loose:List Str}{XP:(Str->Option Value)->Heap->Prop}{YP:World->Heap->Prop}{d:DefRec}{K:Params->PySem.W.Frag}{CX:World->lS}{sp:World->Sp}{x:Str}
  (hn:l.most=some n) (hn2:n<=sizeLine) (hdf:d.params.defaults=[]) (hr:fL k callerA)
  (hY:∀(w:World) (h:Heap),YP w h->(K w.params).In h)
  (F:∀(w:World) (mg:Str->Option Value) (fa:Addr) (h:Heap),(K w.params).In h->h.Ns mainGlobals mg->mg d.name=some (.ref fa)->
   ∃fd:FuncData,(∀(s:Shared) (u:Value),BindsTo s fd ⟨[u],[]⟩ [(x,u)])/\
    ∀base:Heap,(K w.params).In base->base.Ns mainGlobals mg->fM l.prog w (K w.params) mg base (CX w) k fa fd [x] (sp w))
  (iW:∀(w:World) (H:Hp) (a:Addr) (ns:List Int),ns.length<=n->sQ H->eL (K w.params) H a (ns.map V.int)->sp w [.ref a] H (λv _=>v=.bl true) λ_ _ _=>False)
  (Cv:∀(w:World) (H:Hp) (s:Shared) (e:Value) (s':Shared),CX w [] H s (λ_ _ _=>False) e s'->False) :
  PySem.W.WalkO q loose XP YP l.row.toRowW d [] (λf vs=>PySem.call f vs):=by
 refine Ua.yr hn hdf λw s₀ s₁ mg mb fa o pm cd doc a vs ns G Y ho hd hcd hmg hobj hints hlen hg=>?_;have KX:=hY w _ Y;obtain⟨fd,hb,hF⟩:=F w mg fa _ KX G.T.g hmg;exact E2 KX G.T.g G.T.b G.T.builtins G.T.nolimit hg hobj hints (aaf hlen hn2) hr hF hb (λH hO hS=>iW w H a ns hlen hO hS) λH e s'=>Cv w H s₁ e s'
def E3{l:PySem.W.OpenLaw}{n k:Nat}{q:Program}{loose:List Str}{XP:(Str->Option Value)->Heap->Prop}{YP:World->Heap->Prop}{d:DefRec}{K:Params->PySem.W.Frag}{CX:lS}{sp:PySem.W.Frag->Sp}{x:Str}
  (hn:l.most=some n) (hn2:n<=sizeLine) (hdf:d.params.defaults=[]) (hr:fL k callerA)
  (hY:∀(w:World) (h:Heap),YP w h->(K w.params).In h)
  (F:∀(w:World) (mg:Str->Option Value) (fa:Addr) (h:Heap),(K w.params).In h->h.Ns mainGlobals mg->mg d.name=some (.ref fa)->
   ∃fd:FuncData,(∀(s:Shared) (u:Value),BindsTo s fd ⟨[u],[]⟩ [(x,u)])/\
    ∀base:Heap,(K w.params).In base->base.Ns mainGlobals mg->fM l.prog w (K w.params) mg base CX k fa fd [x] (sp (K w.params)))
  (iW:∀(K:PySem.W.Frag) (H:Hp) (a:Addr) (ns:List Int),ns.length<=n->sQ H->eL K H a (ns.map V.int)->sp K [.ref a] H (λv _=>v=.bl true) λ_ _ _=>False)
  (Cv:∀(H:Hp) (s:Shared) (e:Value) (s':Shared),CX [] H s (λ_ _ _=>False) e s'->False) :
  PySem.W.WalkO q loose XP YP l.row.toRowW d [] (λf vs=>PySem.call f vs):=
 JL (K:=K) (CX:=λ_=>CX) (sp:=λw=>sp (K w.params)) hn hn2 hdf hr hY F (λw H a ns h1 h2 h3=>iW (K w.params) H a ns h1 h2 h3) λ_ H s e s'=>Cv H s e s'
noncomputable def oV(s:Stmt):Arguments:=match s with
 |.FunctionDef _ a _ _ _ _ _ _ _ _=>a
 |_=>{ posonlyargs:=[],args:=[],vararg:=none,kwonlyargs:=[],kw_defaults:=[],kwarg:=none,defaults:=[]}
noncomputable def cG(s:Stmt):List Stmt:=match s with
 |.FunctionDef _ _ b _ _ _ _ _ _ _=>b
 |_=>[]
noncomputable def aB(s:Stmt):Scope:=match s with
 |.FunctionDef _ _ _ _ _ _ sc _ _ _=>sc
 |_=>{ kind:=.function,names:=[],isGenerator:=false,isCoroutine:=false }
abbrev jR:lS:=λ_ _ _ _ _ _=>False
abbrev E0:XK:=λ_ _ _=>False
def Rp{X:Cx}:Passes jR X E0:=λ_ _ _ _ _ _ _ h=>h.elim
structure nL(K:PySem.W.Frag)(x qual:Str)(st:Stmt)(f:Addr)(fd:FuncData):Prop where
 ex:∃(oc:Value) (od:Option Addr) (kV doc pm:Value) (an:Option Addr) (cdv ct:Value) (osl:Array (Option Value)),
  fd=PySem.W.fnOf x qual (oV st) (cG st) (aB st) .none kV doc pm an cdv ct/\K.lookup f=some ⟨oc,od,.func fd,osl⟩/\PySem.W.codeIn K cdv qual=true
 kp:PySem.W.keepIn K (.ref f)=true
section
variable{P:Program}{w:World}{K:PySem.W.Frag}{mg:Str->Option Value}{base:Heap}
def nL.ok{x qual:Str}{st:Stmt}{f:Addr}{fd:FuncData}{N ps:List Str}{k:Nat}{sp:Sp}(F:nL K x qual st f fd)(S:bH N ps (aB st))(len:∀vs H Q E,sp vs H Q E->vs.length=ps.length)
  (hbody:∀(cdv:Value) (A:Around) (outer:List Env) (s:Shared) (H:Hp) (vs:List V) (Q:VK) (E:XK),fL k (A.deeper (envOfC qual (aB st) s.heap.objs.size f cdv))->sp vs H Q E->
   ∃t,fD (jJ jR P w K mg base N qual (aB st) f cdv A outer s H E).gu (cG st) t/\t { nx:=λ_ H'=>Q .aU H',rt:=Q } (start N vs) H):fM P w K mg base jR (k+1) f fd ps sp:=by
 obtain⟨oc,od,kV,doc,pm,an,cdv,ct,osl,rfl,lk,hcd⟩:=F.ex;refine Hj lk hcd S len λA outer s H vs Q E hr iW=>?_;obtain⟨t,h,q⟩:=hbody cdv A outer s H vs Q E hr iW;exact⟨t,h.gu,q⟩
def nL.binds{x qual:Str}{st:Stmt}{f:Addr}{fd:FuncData}{ps:List Str}(F:nL K x qual st f fd)
  (h:∀(kV doc pm:Value) (an:Option Addr) (cdv ct:Value) (us:List Value),us.length=ps.length->bindArgs (PySem.W.fnOf x qual (oV st) (cG st) (aB st) .none kV doc pm an cdv ct) ⟨us,[]⟩=pure (ps.zip us)):Binds K fd ps []:=by
 obtain⟨oc,od,kV,doc,pm,an,cdv,ct,osl,rfl,lk,hcd⟩:=F.ex;exact .all (h kV doc pm an cdv ct)
def cg{x qual:Str}{st:Stmt}{f:Addr}{oc:Value}{od an:Option Addr}{osl:Array (Option Value)}{kV doc pm cdv ct:Value}(l:K.lookup f=some ⟨oc,od,.func (PySem.W.fnOf x qual (oV st) (cG st) (aB st) .none kV doc pm an cdv ct),osl⟩)
  (c:PySem.W.codeIn K cdv qual=true) (k:PySem.W.keepIn K (.ref f)=true):nL K x qual st f (PySem.W.fnOf x qual (oV st) (cG st) (aB st) .none kV doc pm an cdv ct):=⟨⟨oc,od,kV,doc,pm,an,cdv,ct,osl,rfl,l,c⟩,k⟩
end
def Rq{A:Around}{k:Nat}(hr:fL k A):A.units+1<cLine:=Nat.lt_of_le_of_lt (Nat.add_le_add_left (by decide:1<=64) _) hr.units
section
variable{X:Cx}
def pv (i:Nat) {x:Str}{pos:Pos}(hN:X.N[i]?=some x:=by rfl) (hv:uo X.env.scope x:=by first|exact Or.inl rfl|exact Or.inr (Or.inl rfl)|exact Or.inr (Or.inr rfl)) (hd:(x==("__debug__" : Str))=false:=by decide)
  (hcd:(x==("__classdict__" : Str))=false:=by decide):PE X (.Name x pos) (L7 i):=qP hN hv hd hcd
end
section
variable{κ:Type}[DecidableEq κ]
noncomputable def jK(kvs:List (κ×V))(k:κ):Option V:=(kvs.find? λkv=>decide (kv.1=k)).map (·.2)
noncomputable def putK(kvs:List (κ×V))(k:κ)(v:V):List (κ×V):=
 if (kvs.any λkv=>decide (kv.1=k))=true then kvs.map (λkv=>if kv.1=k then (kv.1,v)else kv)else kvs++[(k,v)]
def vR{p:κ×V}{r:List (κ×V)}{k:κ}(e:p.1=k):jK (p :: r) k=some p.2:=by simp[jK,abb,e]
def vS{p:κ×V}{r:List (κ×V)}{k:κ}(e:¬ p.1=k):jK (p :: r) k=jK r k:=by simp[jK,abb,e]
def yt(kvs:List (κ×V))(k:κ)(v:V):(putK kvs k v).length<=kvs.length+1:=by
 unfold putK;split
 .rw[aag];omega
 .rw[PX,aai,acz];omega
def KV.val{kvs:List (κ×V)}{vs:List (κ×Value)}(r:KV kvs vs)(k:κ):nB (jK kvs k) (valueAt vs k):=by
 unfold KV at r;induction r with
 |nil=>exact True.intro
 |@cons p q ps qs h t ih=>
  obtain⟨h1,h2⟩:=h;by_cases e:p.1=k
  .have e':q.1=k:=h1.symm.trans e;have b:valueAt (q :: qs) k=some q.2:=by simp[valueAt,abb,e']
   rw[vR e,b];exact h2
  .have e':¬ q.1=k:=λz=>e (h1.trans z);have b:valueAt (q :: qs) k=valueAt qs k:=by simp[valueAt,abb,e']
   rw[vS e,b];exact ih
theorem KV.any{kvs:List (κ×V)}{vs:List (κ×Value)}(r:KV kvs vs)(k:κ):(kvs.any λkv=>decide (kv.1=k))=vs.any λkv=>decide (kv.1=k):=by
 unfold KV at r;induction r with
 |nil=>rfl
 |cons h t ih=>rw[List.any_cons,List.any_cons,ih,h.1]
def KV.repl{kvs:List (κ×V)}{vs:List (κ×Value)}(r:KV kvs vs)(k:κ){y:V}{u:Value}(ry:RelV y u) :
  KV (kvs.map λkv=>if kv.1=k then (kv.1,y)else kv) (vs.map λkv=>if kv.1=k then (kv.1,u)else kv):=by
 unfold KV at r ⊢;induction r with
 |nil=>exact .nil
 |@cons p q ps qs h t ih=>
  rw[aaa,aaa];refine .cons ?_ ih;obtain⟨h1,h2⟩:=h;by_cases e:p.1=k
  .rw[mD e,mD (h1.symm.trans e)];exact⟨h1,ry⟩
  .rw[Yv e,Yv (λz=>e (h1.trans z))];exact⟨h1,h2⟩
def KV.put{kvs:List (κ×V)}{vs:List (κ×Value)}(r:KV kvs vs)(k:κ){y:V}{u:Value}(ry:RelV y u):KV (putK kvs k y) (stored vs k u):=by
 unfold putK stored;rw[r.any k];by_cases e:(vs.any λkv=>decide (kv.1=k))=true
 .rw[mD e,mD e];exact r.repl k ry
 .rw[Yv e,Yv e];exact Paired.snoc r ⟨rfl,ry⟩
end
def AJ{P:Program}{w:World}{k:Key}{u:Value}(r:RelV (kV k) u):(dg P w).is k u=true:=by
 cases k with
 |inl i=>obtain⟨t,e⟩:=(show ∃t,u=Value.int i t from r);subst e;exact yp P w i t
 |inr x=>obtain⟨t,e⟩:=(show ∃t,u=Value.str x t from r);subst e;exact yq P w x t
theorem uD{P:Program}{w:World}:∀{ks:List Key}{us:List Value},Vals (ks.map kV) us->ItemsAre (dg P w) ks us
 |[],_,r=>by rw[abA]at r;cases r;exact .nil
 |k :: ks,_,r=>by
  rw[aaa]at r;cases r with
  |cons h t=>exact .cons (AJ h) (uD t)
abbrev KT(H:Hp):List (List Key×V)->List (List Key×Addr×Value)->Prop:=Paired λp q=>p.1=q.1/\H q.2.1=some (.tup (p.1.map kV))/\RelV p.2 q.2.2
def KT.val{H:Hp}{kvs:List (List Key×V)}{xs:List (List Key×Addr×Value)}(r:KT H kvs xs)(k:List Key):nB (jK kvs k) ((atKey xs k).map (·.2)):=by
 induction r with
 |nil=>exact True.intro
 |@cons p q ps qs h t ih=>
  obtain⟨h1,_,h2⟩:=h;by_cases e:p.1=k
  .have e':q.1=k:=h1.symm.trans e;have b:atKey (q :: qs) k=some q.2:=by simp[atKey,abb,e']
   rw[vR e,b];exact h2
  .have e':¬ q.1=k:=λz=>e (h1.trans z);have b:atKey (q :: qs) k=atKey qs k:=by simp[atKey,abb,e']
   rw[vS e,b];exact ih
section
variable{P:Program}{w:World}{H:Hp}{h:Heap}{a:Addr}
def Hq{u:HO}(ok:ee P w H h)(e:Rd H a u):cR P w H h a u:=e.ok ok
def AK{kvs:List (Key×V)}(ok:ee P w H h)(e:Rd H a (.dK kvs)):kvs.length<=sizeLine/\(a==sysModules)=false/\∃vs,KV kvs vs/\h.DictOf (dg P w) a vs:=
 show cR P w H h a (.dK kvs)from Hq ok e
def Rt{kvs:List (Key×V)}(ok:ee P w H h)(e:H a=some (.dK kvs)):kvs.length<=sizeLine/\(a==sysModules)=false/\∃vs,KV kvs vs/\h.DictOf (dg P w) a vs:=AK ok (.inl e)
def Cw{ks:List Key}(ok:ee P w H h)(e:H a=some (.tup (ks.map kV))):(tupleKind (dg P w)).is h ks a:=by
 obtain⟨_,its,r,o,h1,h2,n,h3⟩:=(show cR P w H h a (.tup (ks.map kV))from ok a _ e)
 exact⟨o,its.toArray,n,h1,h2,h3,by simpa using uD r⟩
def Hr{kvs:List (List Key×V)}(ok:ee P w H h)(e:Rd H a (.dT kvs)):kvs.length<=sizeLine/\(a==sysModules)=false/\
  ∃xs,KT H kvs xs/\h.DictOfH (tupleKind (dg P w)) a xs:=by
 obtain⟨z,y,xs,r,o,es,ep,h1,h2,h3,h4,h5⟩:=(show cR P w H h a (.dT kvs)from Hq ok e)
 refine⟨z,y,xs,r,o,es,ep,h1,h2,h3,h4,λx hx=>?_,h5⟩;have all:∀{l:List (List Key×V)} {m:List (List Key×Addr×Value)},KT H l m->∀x∈m,(tupleKind (dg P w)).is h x.1 x.2.1:=by
  intro l m q;induction q with
  |nil=>intro x hx;exact nomatch hx
  |@cons p q ps qs hq t ih=>
   intro x hx;rcases List.mem_cons.mp hx with e|hx
   .subst e;exact Cw ok (by rw[<-hq.1];exact hq.2.1)
   .exact ih x hx
 exact all r x hx
end
noncomputable def sR(H:Hp)(a:Addr)(y:V)(r:Option V):Prop:=
 (∃kvs k,Rd H a (.dK kvs)/\y=kV k/\r=jK kvs k)\/∃kvs k b,Rd H a (.dT kvs)/\y=.ref b/\H b=some (.tup (k.map kV))/\r=jK kvs k
theorem sR.k{H:Hp}{a:Addr}{kvs:List (Key×V)}{k:Key}(e:H a=some (.dK kvs)):sR H a (kV k) (jK kvs k):=.inl ⟨kvs,k,.inl e,rfl,rfl⟩
section
variable{X:Cx}{pins:List (Addr×Obj)}{σ:St}{H:Hp}{s:Shared}{a:Addr}{y v:V}{u:Value}{o:Option V}{A:Around}{E:Value->Shared->Prop}
def Inv.big(I:Inv X pins σ H s):sysModules<s.heap.objs.size:=by
 have h:mainGlobals<s.heap.objs.size:=(I.mod.glob.keeps I.bk).lt;exact Nat.lt_trans (by decide) h
def Cy{Q:Value->Shared->Prop}(hu:A.units+1<cLine)(I:Inv X pins σ H s)(g:sR H a y (some v))(ry:RelV y u)(h:∀w' s',Inv X pins σ H s'->RelV v w'->Q w' s') :
  wpAny (model X.prog X.w) A (getItem (.ref a) u) Q E s:=by
 rcases g with ⟨kvs,k,e,ey,l⟩|⟨kvs,k,b,e,ey,eb,l⟩
 .subst ey;obtain⟨z,hd,vs,rel,dd⟩:=AK I.hok e;obtain⟨w',hw,rw'⟩:=nB.some_of (v:=v) (o:=valueAt vs k) (by rw[l];exact rel.val k);exact wpAny_getItem_of (AJ ry) dd.mapOf hw (h w' _ (I.tok _) rw')
 .subst ey;cases (show u=Value.ref b from ry);obtain⟨z,hd,xs,rel,dd⟩:=Hr I.hok e;obtain⟨w',hw,rw'⟩:=nB.some_of (v:=v) (o:=(atKey xs k).map (·.2)) (by rw[l];exact rel.val k);obtain⟨p,hp,hp2⟩:=Option.map_eq_some_iff.mp hw;refine wpAny_getItem_heap (tupleKind_room_in1 hu) (Cw I.hok eb) dd hp ?_;rw[hp2];exact h w' _ (I.tok _) rw'
def JM{h':Heap}{t':Nat}{ob:HO}(I:Inv X pins σ H s)(mu:B4 (H a))(hs:Heap.SameBut a s.heap h')(he:∃q,h'.get? a=some q)(new:cR X.prog X.w (upd H a ob) h' a ob) :
  Inv X pins σ (upd H a ob) { s with heap:=h',toks:=t' }:=
 I.write (x:=a) (e:=a) mu (.inl rfl) (λb q hb z=>(hs.2 b hb).trans z) he new
def ML{P:Program}{w:World}{H':Hp}{h':Heap}{kvs:List (Key×V)}{vs:List (Key×Value)}(z:kvs.length<=sizeLine)(hd:(a==sysModules)=false)(rel:KV kvs vs)(dd:h'.DictOf (dg P w) a vs) :
  cR P w H' h' a (.dK kvs):=⟨z,hd,vs,rel,dd⟩
end
noncomputable def E4(i:Expr):Prop:=∀ov iv,subscripted i false ov iv=operate [ov,iv] (getItem ov iv)
def JN{prog:Program}{w:World}{A:Around}{E:Value->Shared->Prop}{s:Shared}{env:Env}{value slice:Expr}{pos:Pos}{T id:String}{Q:Value->Shared->Prop}
  (hl:typeLookup (.type T) "__getitem__" = pure (some (.builtin id))) (hs:E4 slice)
  (h:wpAny (model prog w) A (eval value env) (λo s₁=>wpAny (model prog w) A (eval slice env) (λi s₂=>s₂.TypeIs o T/\wpAny (model prog w) A (getItem o i) Q E s₂) E s₁) E s) :
  wpAny (model prog w) A (eval (.Subscript value slice pos) env) Q E s:=by
 refine Subscript_ (aas h (λo s₁ h₁=>aas h₁ (λi s₂ h₂=>?_) λ_ _ x=>x) λ_ _ x=>x);obtain⟨hT,h₂⟩:=h₂;unfold subscriptTail;refine eZ ?_;rw[getitemInPython_of_ne hT.not_modules];refine eZ (aaT hT hl ?_);have fin:wpAny (model prog w) A (subscripted slice false o i) (λr s₃=>wpAny (model prog w) A (letTemporaryGo value o r >>= λ_=>pure r) Q E s₃) E s₂:=by
  rw[hs o i];exact wpAny_operating (aas h₂ (λr s₃ h₃=>eZ (wpAny_letTemporaryGo (uZ h₃))) λ_ _ x=>x)
 first
  |exact uZ (eZ fin)
  |exact eZ (uZ (eZ fin))
  |exact eZ fin
def yu {X:Cx}{pins:List (Addr×Obj)}{σ:St}{H:Hp}{s:Shared}{a:Addr}{y:V}{o:Option V}(I:Inv X pins σ H s) (g:sR H a y o):s.TypeIs (.ref a) "dict" :=by
 rcases g with ⟨kvs,k,e,_,_⟩|⟨kvs,k,b,e,_,_,_⟩
 .obtain⟨_,_,vs,_,dd⟩:=AK I.hok e;exact dd.typeIs
 .obtain⟨_,_,xs,_,dd⟩:=Hr I.hok e;exact dd.typeIs
noncomputable def Ru(td ty:TE):TE:=λσ H Q=>td σ H λx H1=>ty σ H1 λy H2=>∃a v,x=.ref a/\sR H2 a y (some v)/\Q v H2
section
variable{X:Cx}{o i:Expr}{pos:Pos}{td ty:TE}
def JQ(hu:X.A.units+1<cLine)(ho:PE X o td)(hi:PE X i ty)(hs:E4 i):PE X (.Subscript o i pos) (Ru td ty):=by
 intro pins s σ H Q I h;refine JN PySem.F.slot_dict_getitem.lookup hs (bC (ho pins s σ H _ I h) λu s1 ⟨x,H1,I1,rx,q1⟩=>bC (hi pins s1 σ H1 _ I1 q1) λiv s2 ⟨y,H2,I2,ry,a,v,ex,g,q2⟩=>?_);subst ex;obtain rfl:u=Value.ref a:=rx;exact⟨yu I2 g,Cy hu I2 g ry λw' s3 I3 rw'=>⟨v,H2,I3,rw',q2⟩⟩
end
def E5 {P:Program}{w:World}{H:Hp}(h:Heap) (hb:sysModules<h.objs.size):cR P w H (h.push { cls:=.type "dict",data:=.dict #[]}) h.objs.size (.dK []):=
 ⟨aa7 _,beq_eq_false_iff_ne.mpr (aa1 (aah hb)),[],.nil,Heap.DictOf.new h⟩
noncomputable def qV:List (TE×TE)->St->Hp->(List (V×V)->Hp->Prop)->Prop
 |[],_,H,Q=>Q [] H
 | (tk,tv) :: r,σ,H,Q=>tk σ H λx H1=>tv σ H1 λy H2=>qV r σ H2 λps H3=>Q ((x,y) :: ps) H3
abbrev VV:List (V×V)->List (Value×Value)->Prop:=Paired λp q=>RelV p.1 q.1/\RelV p.2 q.2
noncomputable def Cz(X:Cx)(pos:Pos)(keys:List (Option Expr))(values:List Expr)(kU:List (TE×TE)):Prop:=
 ∀(pins:List (Addr×Obj)) (s:Shared) (σ:St) (H:Hp) (Q:List (V×V)->Hp->Prop),Inv X pins σ H s->qV kU σ H Q->
  wpAny (model X.prog X.w) X.A (evalPairs (pairTrees keys values X.env pos)) (λvs s'=>∃ps H',Inv X pins σ H' s'/\VV ps vs/\Q ps H') X.xe s
def JR{X:Cx}{pos:Pos}:Cz X pos [] [] []:=λpins s σ H Q I h=>pairTrees_nil_walk ⟨[],H,I,.nil,h⟩
def E6{X:Cx}{pos:Pos}{k v:Expr}{ks:List (Option Expr)}{vs:List Expr}{tk tv:TE}{kU:List (TE×TE)}(hk:PE X k tk)(hv:PE X v tv)(hr:Cz X pos ks vs kU) :
  Cz X pos (some k :: ks) (v :: vs) ((tk,tv) :: kU):=λpins s σ H Q I h=>
 pairTrees_cons_walk (bC (hk pins s σ H _ I h) λu s1 ⟨x,H1,I1,rx,q1⟩=>bC (hv pins s1 σ H1 _ I1 q1) λw2 s2 ⟨y,H2,I2,ry,q2⟩=>
  bC (hr pins s2 σ H2 _ I2 q2) λws s3 ⟨ps,H3,I3,rel,q3⟩=>⟨(x,y) :: ps,H3,I3,.cons ⟨rx,ry⟩ rel,q3⟩)
noncomputable def lU(kvs more:List (Key×V)):List (Key×V):=more.foldl (λacc kv=>putK acc kv.1 kv.2) kvs
def KV.merge:∀{more:List (Key×V)}{rs:List (Key×Value)}{kvs:List (Key×V)}{vs:List (Key×Value)},KV more rs->KV kvs vs->KV (lU kvs more) (merged vs rs):=by
 intro more rs kvs vs r;unfold KV at r;induction r generalizing kvs vs with
 |nil=>intro q;exact q
 |@cons p q ps qs h t ih=>
  intro r0;have e:KV (putK kvs p.1 p.2) (stored vs q.1 q.2):=by
   have:=r0.put p.1 h.2;rw[<-h.1];exact this
  exact ih e
theorem nh:∀(more kvs:List (Key×V)),(lU kvs more).length<=kvs.length+more.length
 |[],kvs=>by show kvs.length<=kvs.length+0;omega
 |p :: r,kvs=>by
  have h1:=nh r (putK kvs p.1 p.2);have h2:=yt kvs p.1 p.2;show(lU (putK kvs p.1 p.2) r).length<=_;rw[aai];omega
theorem qW{P:Program}{w:World}:∀{kvs:List (Key×V)}{ws:List (Value×Value)},VV (kvs.map λkv=>(kV kv.1,kv.2)) ws->∃rs,Carries (dg P w) ws rs/\KV kvs rs
 |[],_,r=>by rw[abA]at r;cases r;exact⟨[],True.intro,.nil⟩
 |p :: kvs,_,r=>by
  rw[aaa]at r;cases r with
  |@cons a b as bs h t=>
   obtain⟨rs,c,q⟩:=qW (P:=P) (w:=w) t;obtain⟨b1,b2⟩:=b;exact⟨(p.1,b2) :: rs,⟨AJ h.1,rfl,c⟩,.cons ⟨rfl,h.2⟩ q⟩
end L2
namespace Ev
inductive D where
 |aU|bl (b:Bool)|int (i:Int)|str (s:List Nat)|tup (ds:List D)|ref (n:Nat)
inductive O where
 |lst (ds:List D)|bY (ds:List D)
 |dw (kvs:List (List Nat×List Nat))
abbrev Hh:=List O
abbrev Fr:=List (Option D)
inductive R(α:Type) where
 |ok (a:α) (h:Hh)
 |bad
noncomputable def R.bind{α β:Type}(r:R α)(f:α->Hh->R β):R β:=
 match r with
 |.ok a h=>f a h
 |.bad=>.bad
@[simp] theorem ak{α β:Type}(a:α)(h:Hh)(f:α->Hh->R β):(R.ok a h).bind f=f a h:=rfl
@[simp] theorem E7{α β:Type}(f:α->Hh->R β):(R.bad:R α).bind f=.bad:=rfl
def ah{α β:Type}{r:R α}{f:α->Hh->R β}{b:β}{h:Hh}(e:r.bind f=.ok b h):∃a h1,r=.ok a h1/\f a h1=.ok b h:=by
 cases r with
 |ok a h1=>exact⟨a,h1,rfl,e⟩
 |bad=>cases e
noncomputable def R.of{α:Type}(o:Option α)(h:Hh):R α:=match o with
 |some a=>.ok a h
 |none=>.bad
@[simp] theorem dh{α:Type}(a:α)(h:Hh):R.of (some a) h=.ok a h:=rfl
@[simp] theorem of_none{α:Type}(h:Hh):R.of (none:Option α) h=.bad:=rfl
def aM{α:Type}{o:Option α}{h h':Hh}{a:α}(e:R.of o h=.ok a h'):o=some a/\h'=h:=by
 cases o with
 |none=>cases e
 |some b=>cases e;exact⟨rfl,rfl⟩
inductive bw where
 |add|sub|mul|fdiv|mod
inductive bq where
 |eq|ne|lt|gt
inductive TY where
 |int|bool|str|tuple|list
inductive BI where
 |len|sum|min
 |lE
inductive ME where
 |join|append|extend|pop
 |kq
inductive T where
 |one (i:Nat)|many (l:List Nat)
mutual
inductive E where
 |c (d:D)|v (i:Nat)|tup (es:Es)|lst (es:Es)
 |bin (o:bw) (a b:E)|cmp (o:bq) (a b:E)
 |nt (a:E)|neg (a:E)|an (a b:E)|orr (a b:E)|iX (t a b:E)
 |ix (a b:E)|sl (a:E) (lo hi:Eo)
 |jS (a:E)
 |fh (a b:E)
 |cl (f:Nat) (es:Es)|bi (b:BI) (es:Es)|me (m:ME) (o:E) (es:Es)
 |comp (elt:E) (t:T) (it:It) (cond:Eo)
 |gU (it:It)
 |gY (kvs:List (D×D)) (a:E)|gy (a:E)
 |jT (kvs:List (List Nat×List Nat))|ku (a k:E)
inductive Es where
 |nil|cons (e:E) (es:Es)
inductive Eo where
 |no|yes (e:E)
inductive It where
 |seq (e:E)|iU (es:Es)
 |enum (a:E)|rev (a:E)
end
mutual
inductive S where
 |set (i:Nat) (e:E)|iA (l:List Nat) (e:E)
 |exp (e:E)|ret (e:E)|iff (t:E) (a b:Ss)|for (t:T) (it:It) (b:Ss)|jU (t:E) (b:Ss)
 |eU (c:Nat)
 |tr (f k:Nat) (es:Es)
inductive Ss where
 |nil|cons (s:S) (ss:Ss)
end
inductive Fl where
 |nx|bk|ct|ret (d:D)
noncomputable def big:Nat:=16777216
noncomputable def b9(f:D->D->Option Bool):List D->List D->Option Bool
 |[],[]=>some true
 |x :: xs,y :: ys=>do
  let b <-f x y
  let c <-b9 f xs ys
  pure (b&&c)
 |_,_=>some false
noncomputable def bx(h:Hh)(n:Nat):Option (List D):=match h[n]? with
 |some (.lst ds)=>some ds
 |some (.bY ds)=>some ds
 |_=>none
noncomputable def b2i(b:Bool):Int:=if b then 1 else 0
noncomputable def kB(h:Hh)(f:D->D->Option Bool)(a b:Nat):Option Bool:=if a=b then (bx h a).map λ_=>true else match h[a]?,h[b]? with
 |some (.lst x),some (.lst y)=>b9 f x y
 |some (.bY x),some (.lst y)=>b9 f x y
 |some (.lst x),some (.bY y)=>b9 f x y
 |_,_=>none
noncomputable def iY(h:Hh):Nat->D->D->Option Bool
 |0,_,_=>none
 |_+1,.aU,.aU=>some true
 |_+1,.bl a,.bl b=>some (a==b)
 |_+1,.int a,.int b=>some (a==b)
 |_+1,.bl a,.int b=>some (b2i a==b)
 |_+1,.int a,.bl b=>some (a==b2i b)
 |_+1,.str a,.str b=>some (a==b)
 |n+1,.tup a,.tup b=>b9 (iY h n) a b
 |n+1,.ref a,.ref b=>kB h (iY h n) a b
 |_+1,.ref a,_=>(bx h a).map λ_=>false
 |_+1,_,.ref a=>(bx h a).map λ_=>false
 |_+1,_,_=>some false
noncomputable def deep:Nat:=20
noncomputable def truthy(h:Hh):D->Option Bool
 |.aU=>some false
 |.bl b=>some b
 |.int i=>some (i != 0)
 |.str s=>some (!s.isEmpty)
 |.tup ds=>some (!ds.isEmpty)
 |.ref n=>match h[n]? with
  |some (.dw kvs)=>some (!kvs.isEmpty)
  |_=>(bx h n).map λds=>!ds.isEmpty
noncomputable def alloc(ds:List D)(h:Hh):R D:=if ds.length<=big then .ok (.ref h.length) (h++[.lst ds])else .bad
noncomputable def rep{α:Type}(k:Nat)(l:List α):List α:=(List.replicate k l).flatten
noncomputable def bT(i j:Int):Bool:=(decide (-(2 ^ 64)<i)&&decide (i<2 ^ 64)) || (decide (-(2 ^ 64)<j)&&decide (j<2 ^ 64))
noncomputable def bD:bw->D->D->Hh->R D
 |.add,.int i,.int j,h=>.ok (.int (i+j)) h
 |.add,.str a,.str b,h=>if a.length+b.length<=big then .ok (.str (a++b)) h else .bad
 |.add,.tup a,.tup b,h=>if a.length+b.length<=big then .ok (.tup (a++b)) h else .bad
 |.add,.ref a,.ref b,h=>match h[a]?,h[b]? with
  |some (.lst x),some (.lst y)=>alloc (x++y) h
  |_,_=>.bad
 |.sub,.int i,.int j,h=>.ok (.int (i - j)) h
 |.mul,.int i,.int j,h=>if bT i j then .ok (.int (i*j)) h else .bad
 |.mul,.str a,.int k,h=>if 0<=k/\k<=1000/\a.length<=1000 then .ok (.str (rep k.toNat a)) h else .bad
 |.mul,.tup a,.int k,h=>if 0<=k/\k<=1000/\a.length<=1000 then .ok (.tup (rep k.toNat a)) h else .bad
 |.mul,.ref a,.int k,h=>match h[a]? with
  |some (.lst x)=>if 0<=k/\k<=1000/\x.length<=1000 then alloc (rep k.toNat x) h else .bad
  |_=>.bad
 |.fdiv,.int i,.int j,h=>if 0<j/\j<1073741824 then .ok (.int (i / j)) h else .bad
 |.mod,.int i,.int j,h=>if 0<j then .ok (.int (i % j)) h else .bad
 |_,_,_,_=>.bad
noncomputable def cop(o:bq)(x y:D)(h:Hh):Option Bool:=match o,x,y with
 |.eq,x,y=>iY h deep x y
 |.ne,x,y=>(iY h deep x y).map (!·)
 |.lt,.int i,.int j=>some (decide (i<j))
 |.gt,.int i,.int j=>some (decide (j<i))
 |_,_,_=>none
noncomputable def cL(n:Nat)(i:Int):Option Nat:=if 0<=i then (if i<n then some i.toNat else none)else if -(n:Int)<=i then some (i+n).toNat else none
noncomputable def bE{α:Type}(xs:List α)(i:Int):Option α:=(cL xs.length i).bind λj=>xs[j]?
noncomputable def cY(x y:D)(h:Hh):Option D:=match x,y with
 |.tup ds,.int i=>bE ds i
 |.str s,.int i=>(bE s i).map λc=>.str [c]
 |.ref n,.int i=>(bx h n).bind λds=>bE ds i
 |_,_=>none
noncomputable def aP(n d:Nat):Option Int->Nat
 |none=>d
 |some v=>if v<0 then (v+n).toNat else min v.toNat n
noncomputable def cut{α:Type}(xs:List α)(lo hi:Option Int):List α:=(xs.drop (aP xs.length 0 lo)).take (aP xs.length xs.length hi - aP xs.length 0 lo)
noncomputable def iZ(x:D)(lo hi:Option Int)(h:Hh):R D:=match x with
 |.tup ds=>.ok (.tup (cut ds lo hi)) h
 |.str s=>.ok (.str (cut s lo hi)) h
 |.ref n=>match bx h n with
  |some ds=>alloc (cut ds lo hi) h
  |none=>.bad
 |_=>.bad
noncomputable def boolsOf:List D->Option (List Bool)
 |[]=>some []
 |.bl b :: ds=>(boolsOf ds).map λr=>b :: r
 |_=>none
noncomputable def intsOf:List D->Option (List Int)
 |[]=>some []
 |.int i :: ds=>(intsOf ds).map λr=>i :: r
 |_=>none
noncomputable def strsOf:List D->Option (List (List Nat))
 |[]=>some []
 |.str s :: ds=>(strsOf ds).map λr=>s :: r
 |_=>none
noncomputable def bZ(sep:List Nat):List (List Nat)->List Nat
 |[]=>[]
 |[s]=>s
 |s :: t :: r=>s++sep++bZ sep (t :: r)
noncomputable def lexLe:List Nat->List Nat->Bool
 |[],_=>true
 |_ :: _,[]=>false
 |x :: xs,y :: ys=>if x=y then lexLe xs ys else decide (x<y)
noncomputable def MM(x:List Nat):List (List Nat)->List (List Nat)
 |[]=>[x]
 |y :: ys=>if lexLe x y then x :: y :: ys else y :: MM x ys
noncomputable def cJ:List (List Nat)->List (List Nat)
 |[]=>[]
 |x :: xs=>MM x (cJ xs)
noncomputable def sS(kvs:List (List Nat×List Nat))(k:List Nat):Option (List Nat):=(kvs.find? λp=>decide (p.1=k)).map (·.2)
noncomputable def vU(x y:D)(h:Hh):Option D:=match x,y with
 |.ref n,.str k=>match h[n]? with
  |some (.dw kvs)=>(sS kvs k).map .str
  |_=>none
 |_,_=>none
noncomputable def dz(b:BI)(xs:List D)(h:Hh):R D:=match b,xs with
 |.len,[.str s]=>if s.length<=big then .ok (.int s.length) h else .bad
 |.len,[.tup ds]=>.ok (.int ds.length) h
 |.len,[.ref n]=>R.of ((bx h n).map λds=>.int ds.length) h
 |.sum,[.ref n]=>R.of (((bx h n).bind intsOf).map λis=>.int is.sum) h
 |.min,[.int i,.int j]=>.ok (.int (if j<i then j else i)) h
 |.lE,[.bl b]=>.ok (.int (if b then 1 else 0)) h
 |_,_=>.bad
noncomputable def fq(m:ME)(o:D)(xs:List D)(h:Hh):R D:=match m,o,xs with
 |.join,.str sep,[.ref n]=>match (bx h n).bind strsOf with
  |some ss=>if (ss.map (·.length)).sum+ss.length*sep.length<=big then .ok (.str (bZ sep ss)) h else .bad
  |none=>.bad
 |.append,.ref n,[x]=>match h[n]? with
  |some (.lst ds)=>if ds.length<big then .ok .aU (h.set n (.lst (ds++[x])))else .bad
  |_=>.bad
 |.extend,.ref n,[.ref m]=>match h[n]?,h[m]? with
  |some (.lst ds),some (.lst es)=>if ds.length+es.length<=big then .ok .aU (h.set n (.lst (ds++es)))else .bad
  |_,_=>.bad
 |.pop,.ref n,[]=>match h[n]? with
  |some (.lst ds)=>match ds[ds.length - 1]? with
   |some x=>.ok x (h.set n (.lst ds.dropLast))
   |none=>.bad
  |_=>.bad
 |.kq,.ref n,[x,.int k]=>match h[n]? with
  |some (.lst ds)=>match cL ds.length k with
   |some j=>.ok .aU (h.set n (.lst (ds.set j x)))
   |none=>.bad
  |_=>.bad
 |_,_,_=>.bad
noncomputable def qX(m:ME)(x:D)(h:Hh):Bool:=match m,x with
 |.join,.str _=>true
 |.join,_=>false
 |_,.ref n=>(bx h n).isSome
 |_,_=>false
noncomputable def fz(x:D):List (D×D)->Option D
 |[]=>none
 | (k,v) :: r=>match iY [] 1 k x with
  |some true=>some v
  |some false=>fz x r
  |none=>none
abbrev Src:=List D×List (Nat×List D)
noncomputable def fN(h:Hh):D->Option Src
 |.tup ds=>some (ds,[])
 |.str s=>some (s.map λc=>.str [c],[])
 |.ref n=>(bx h n).map λds=>(ds,[(n,ds)])
 |_=>none
noncomputable def range(lo:Int)(n:Nat):List D:=(List.range n).map λ(i:Nat)=>.int (lo+i)
noncomputable def fO:List D->Option Src
 |[.int j]=>if -(2 ^ 62)<=j/\j<2 ^ 62 then some (range 0 j.toNat,[])else none
 |[.int i,.int j]=>if -(2 ^ 62)<=i/\i<2 ^ 62/\-(2 ^ 62)<=j/\j<2 ^ 62 then some (range i (j - i).toNat,[])else none
 |_=>none
noncomputable def cD:Int->List D->List D
 |_,[]=>[]
 |k,x :: xs=>.tup [.int k,x] :: cD (k+1) xs
noncomputable def AL(a b:List D):Bool:=@decide (a=b) (Classical.propDecidable _)
def uE(a b:List D):AL a b=true↔a=b:=@decide_eq_true_iff _ (Classical.propDecidable _)
@[simp] theorem AM(a:List D):AL a a=true:=(uE a a).mpr rfl
noncomputable def stays(h:Hh):List (Nat×List D)->Bool
 |[]=>true
 | (n,ds) :: r=>(match bx h n with|some es=>AL es ds|none=>false)&&stays h r
noncomputable def cH:List Nat->List D->Fr->Option Fr
 |[],[],fr=>some fr
 |i :: is,d :: ds,fr=>cH is ds (fr.set i (some d))
 |_,_,_=>none
noncomputable def bJ:T->D->Fr->Option Fr
 |.one i,d,fr=>some (fr.set i (some d))
 |.many l,.tup ds,fr=>cH l ds fr
 |_,_,_=>none
noncomputable def slots:T->List Nat
 |.one i=>[i]
 |.many l=>l
noncomputable def undef(t:T)(fr:Fr):Bool:=(slots t).all λi=>(fr[i]?.join).isNone
noncomputable def E8:D->Option (List D)
 |.tup ds=>some ds
 |_=>none
noncomputable def sU:D->Hh->R D
 |.tup ds,h=>.ok (.tup ds) h
 |.ref n,h=>match bx h n with
  |some ds=>if ds.length<=big then .ok (.tup ds) h else .bad
  |none=>.bad
 |_,_=>.bad
noncomputable def AN:D->Hh->R D
 |.ref n,h=>match bx h n with
  |some ds=>if ds.length<=big then .ok (.tup ds.reverse) h else .bad
  |none=>.bad
 |_,_=>.bad
noncomputable def AO(h:Hh):D->Option Src
 |.ref n=>(bx h n).map λds=>(ds,[(n,ds)])
 |_=>none
noncomputable def cK(f:D->Hh->R (Option D))(ck:List (Nat×List D)):List D->Hh->R (List D)
 |[],h=>if stays h ck then .ok [] h else .bad
 |d :: ds,h=>if stays h ck then (f d h).bind λo h1=>(cK f ck ds h1).bind λr h2=>.ok (o.toList++r) h2 else .bad
noncomputable def forL(f:D->Fr->Hh->R (Fl×Fr))(ck:List (Nat×List D)):List D->Fr->Hh->R (Fl×Fr)
 |[],fr,h=>if stays h ck then .ok (.nx,fr) h else .bad
 |d :: ds,fr,h=>if stays h ck then (f d fr h).bind λp h1=>match p.1 with
   |.nx=>forL f ck ds p.2 h1
   |.ct=>forL f ck ds p.2 h1
   |.bk=>.ok (.nx,p.2) h1
   |.ret x=>.ok (.ret x,p.2) h1
  else .bad
noncomputable def di(t:Fr->Hh->R Bool)(f:Fr->Hh->R (Fl×Fr)):Nat->Fr->Hh->R (Fl×Fr)
 |0,_,_=>.bad
 |n+1,fr,h=>(t fr h).bind λb h1=>if b then (f fr h1).bind λp h2=>match p.1 with
   |.nx=>di t f n p.2 h2
   |.ct=>di t f n p.2 h2
   |.bk=>.ok (.nx,p.2) h2
   |.ret x=>.ok (.ret x,p.2) h2
  else .ok (.nx,fr) h1
abbrev aL:=Nat->List D->Hh->R D
noncomputable def intOf:D->Option Int
 |.int i=>some i
 |_=>none
noncomputable def E9(x y:D)(h:Hh):R D:=match x,y with
 |.ref a,.ref b=>bD .add (.ref a) (.ref b) h
 |_,_=>.bad
mutual
noncomputable def ev(P:aL):E->Fr->Hh->R D
 |.c d,_,h=>.ok d h
 |.v i,fr,h=>R.of (fr[i]?.join) h
 |.tup es,fr,h=>(bU P es fr h).bind λds h1=>if ds.length<=big then .ok (.tup ds) h1 else .bad
 |.lst es,fr,h=>(bU P es fr h).bind λds h1=>alloc ds h1
 |.bin o a b,fr,h=>(ev P a fr h).bind λx h1=>(ev P b fr h1).bind λy h2=>bD o x y h2
 |.cmp o a b,fr,h=>(ev P a fr h).bind λx h1=>(ev P b fr h1).bind λy h2=>R.of ((cop o x y h2).map .bl) h2
 |.nt a,fr,h=>(ev P a fr h).bind λx h1=>match x with
   |.bl b=>.ok (.bl (!b)) h1
   |_=>.bad
 |.neg a,fr,h=>(ev P a fr h).bind λx h1=>match x with
   |.int i=>.ok (.int (-i)) h1
   |_=>.bad
 |.an a b,fr,h=>(ev P a fr h).bind λx h1=>match x with
   |.bl true=>ev P b fr h1
   |.bl false=>.ok (.bl false) h1
   |_=>.bad
 |.orr a b,fr,h=>(ev P a fr h).bind λx h1=>match x with
   |.bl true=>.ok (.bl true) h1
   |.bl false=>ev P b fr h1
   |_=>.bad
 |.iX t a b,fr,h=>(aH P t fr h).bind λk h1=>if k then ev P a fr h1 else ev P b fr h1
 |.ix a b,fr,h=>(ev P a fr h).bind λx h1=>(ev P b fr h1).bind λy h2=>R.of (cY x y h2) h2
 |.sl a lo hi,fr,h=>(ev P a fr h).bind λx h1=>(gc P lo fr h1).bind λl h2=>(gc P hi fr h2).bind λu h3=>iZ x l u h3
 |.jS a,fr,h=>(ev P a fr h).bind λx h1=>AN x h1
 |.fh a b,fr,h=>(ev P a fr h).bind λx h1=>(ev P b fr h1).bind λy h2=>E9 x y h2
 |.cl f es,fr,h=>(bU P es fr h).bind λds h1=>P f ds h1
 |.bi b es,fr,h=>(bU P es fr h).bind λds h1=>dz b ds h1
 |.me m o es,fr,h=>(ev P o fr h).bind λx h1=>if qX m x h1 then (bU P es fr h1).bind λds h2=>fq m x ds h2 else .bad
 |.comp elt t it cond,fr,h=>(cy P it fr h).bind λs h1=>if undef t fr then
   (cK (λd h2=>match bJ t d fr with
    |none=>.bad
    |some ao=>(ja P cond ao h2).bind λk h3=>if k then (ev P elt ao h3).bind λx h4=>.ok (some x) h4 else .ok none h3) s.2 s.1 h1).bind λds h2=>alloc ds h2 else .bad
 |.gU it,fr,h=>(cy P it fr h).bind λs h1=>alloc s.1 h1
 |.gY kvs a,fr,h=>(ev P a fr h).bind λx h1=>R.of (fz x kvs) h1
 |.jT kvs,_,h=>if kvs=[]then .bad else .ok (.ref h.length) (h++[.dw kvs])
 |.ku a k,fr,h=>(ev P a fr h).bind λx h1=>(ev P k fr h1).bind λy h2=>R.of (vU x y h2) h2
 |.gy a,fr,h=>(ev P a fr h).bind λx h1=>sU x h1
noncomputable def bU(P:aL):Es->Fr->Hh->R (List D)
 |.nil,_,h=>.ok [] h
 |.cons e es,fr,h=>(ev P e fr h).bind λd h1=>(bU P es fr h1).bind λds h2=>.ok (d :: ds) h2
noncomputable def gc(P:aL):Eo->Fr->Hh->R (Option Int)
 |.no,_,h=>.ok none h
 |.yes e,fr,h=>(ev P e fr h).bind λd h1=>R.of ((intOf d).map some) h1
noncomputable def ja(P:aL):Eo->Fr->Hh->R Bool
 |.no,_,h=>.ok true h
 |.yes e,fr,h=>aH P e fr h
noncomputable def aH(P:aL):E->Fr->Hh->R Bool
 |.an a b,fr,h=>(aH P a fr h).bind λk h1=>if k then aH P b fr h1 else .ok false h1
 |.orr a b,fr,h=>(aH P a fr h).bind λk h1=>if k then .ok true h1 else aH P b fr h1
 |.nt a,fr,h=>(aH P a fr h).bind λk h1=>.ok (!k) h1
 |e,fr,h=>(ev P e fr h).bind λx h1=>R.of (truthy h1 x) h1
noncomputable def cy(P:aL):It->Fr->Hh->R Src
 |.seq e,fr,h=>(ev P e fr h).bind λx h1=>R.of (fN h1 x) h1
 |.iU es,fr,h=>(bU P es fr h).bind λds h1=>R.of (fO ds) h1
 |.enum a,fr,h=>(ev P a fr h).bind λx h1=>R.of ((AO h1 x).map λs=>(cD 0 s.1,s.2)) h1
 |.rev a,fr,h=>(ev P a fr h).bind λx h1=>R.of ((E8 x).map λds=>(ds.reverse,[])) h1
end
noncomputable def xo:Nat:=1000
noncomputable def Fb(k:Nat):D->Option D
 |.int c=>if 0<=c/\c<k then some (.tup [.str [114,101,102,117,115,101,100],.int c])else none
 |_=>none
noncomputable def tryD(k:Nat):R D->R D->R D
 |.ok d h,_=>.ok d h
 |.bad,q=>q.bind λc h=>R.of (Fb k c) h
mutual
noncomputable def ex(P:aL)(w:Nat):S->Fr->Hh->R (Fl×Fr)
 |.set i e,fr,h=>(ev P e fr h).bind λx h1=>.ok (.nx,fr.set i (some x)) h1
 |.iA l e,fr,h=>(ev P e fr h).bind λx h1=>match bJ (.many l) x fr with
   |some ao=>.ok (.nx,ao) h1
   |none=>.bad
 |.exp e,fr,h=>(ev P e fr h).bind λ_ h1=>.ok (.nx,fr) h1
 |.ret e,fr,h=>(ev P e fr h).bind λx h1=>.ok (.ret x,fr) h1
 |.iff t a b,fr,h=>(aH P t fr h).bind λk h1=>if k then exs P w a fr h1 else exs P w b fr h1
 |.for t it b,fr,h=>(cy P it fr h).bind λs h1=>forL (λd ao h2=>match bJ t d ao with
   |some bR=>exs P w b bR h2
   |none=>.bad) s.2 s.1 fr h1
 |.jU t b,fr,h=>di (λao h2=>aH P t ao h2) (λao h2=>exs P w b ao h2) w fr h
 |.eU _,_,_=>.bad
 |.tr f k es,fr,h=>(bU P es fr h).bind λds h1=>(tryD k (P f ds h1) (P (f+xo) ds h1)).bind λx h2=>.ok (.ret x,fr) h2
noncomputable def exs(P:aL)(w:Nat):Ss->Fr->Hh->R (Fl×Fr)
 |.nil,fr,h=>.ok (.nx,fr) h
 |.cons s ss,fr,h=>(ex P w s fr h).bind λp h1=>match p.1 with
   |.nx=>exs P w ss p.2 h1
   |_=>.ok p h1
end
structure Fn where
 np:Nat
 ns:Nat
 body:Ss
noncomputable def dM(fn:Fn)(ds:List D):Fr:=ds.map some++List.replicate (fn.ns - fn.np) none
noncomputable def endOf(r:R (Fl×Fr)):R D:=r.bind λp h=>match p.1 with
 |.ret d=>.ok d h
 |.nx=>.ok .aU h
 |_=>.bad
abbrev XR:=Option (Nat×Hh)
abbrev cA:=Nat->List D->Hh->XR
mutual
noncomputable def xe(P:aL)(X:cA):E->Fr->Hh->XR
 |.cl f es,fr,h=>match bU P es fr h with
  |.ok ds h1=>X f ds h1
  |.bad=>xa P X es fr h
 |.ix a _,fr,h=>xe P X a fr h
 |.me m o es,fr,h=>match ev P o fr h with
  |.ok x h1=>if qX m x h1 then xa P X es fr h1 else none
  |.bad=>none
 |_,_,_=>none
noncomputable def xa(P:aL)(X:cA):Es->Fr->Hh->XR
 |.nil,_,_=>none
 |.cons e es,fr,h=>match ev P e fr h with
  |.ok _ h1=>xa P X es fr h1
  |.bad=>xe P X e fr h
end
noncomputable def fP(f:D->Fr->Hh->R (Fl×Fr))(g:D->Fr->Hh->XR)(ck:List (Nat×List D)):List D->Fr->Hh->XR
 |[],_,_=>none
 |d :: ds,fr,h=>if stays h ck then match f d fr h with
   |.ok (.nx,af) h1=>fP f g ck ds af h1
   |.ok (.ct,af) h1=>fP f g ck ds af h1
   |.ok _ _=>none
   |.bad=>g d fr h
  else none
noncomputable def gz(t:Fr->Hh->R Bool)(f:Fr->Hh->R (Fl×Fr))(g:Fr->Hh->XR):Nat->Fr->Hh->XR
 |0,_,_=>none
 |n+1,fr,h=>match t fr h with
  |.ok true h1=>match f fr h1 with
   |.ok (.nx,af) h2=>gz t f g n af h2
   |.ok (.ct,af) h2=>gz t f g n af h2
   |.ok _ _=>none
   |.bad=>g fr h1
  |_=>none
mutual
noncomputable def xs(P:aL)(X:cA)(w:Nat):S->Fr->Hh->XR
 |.eU c,_,h=>some (c,h)
 |.set _ e,fr,h=>xe P X e fr h
 |.exp e,fr,h=>xe P X e fr h
 |.ret e,fr,h=>xe P X e fr h
 |.iff t a b,fr,h=>match aH P t fr h with
  |.ok k h1=>if k then xss P X w a fr h1 else xss P X w b fr h1
  |.bad=>xe P X t fr h
 |.for t it b,fr,h=>match cy P it fr h with
  |.ok s h1=>fP (λd ao h2=>match bJ t d ao with|some bR=>exs P w b bR h2|none=>.bad) (λd ao h2=>match bJ t d ao with|some bR=>xss P X w b bR h2|none=>none) s.2 s.1 fr h1
  |.bad=>none
 |.jU t b,fr,h=>gz (λao h2=>aH P t ao h2) (λao h2=>exs P w b ao h2) (λao h2=>xss P X w b ao h2) w fr h
 |_,_,_=>none
noncomputable def xss(P:aL)(X:cA)(w:Nat):Ss->Fr->Hh->XR
 |.nil,_,_=>none
 |.cons s ss,fr,h=>match ex P w s fr h with
  |.ok (.nx,af) h1=>xss P X w ss af h1
  |.ok _ _=>none
  |.bad=>xs P X w s fr h
end
noncomputable def ni(X:cA)(f:Nat)(ds:List D)(h:Hh):R D:=if xo<=f then (match X (f - xo) ds h with
  |some (c,h')=>.ok (.int c) h'
  |none=>.bad)else .bad
noncomputable def runs(F:List Fn)(w:Nat):Nat->aL×cA
 |0=>(λ_ _ _=>.bad,λ_ _ _=>none)
 |n+1=>
  let X:cA:=λf ds h=>match F[f]? with
   |some fn=>if ds.length=fn.np then xss (runs F w n).1 (runs F w n).2 w fn.body (dM fn ds) h else none
   |none=>none
  (λf ds h=>match F[f]? with
   |some fn=>if ds.length=fn.np then endOf (exs (runs F w n).1 w fn.body (dM fn ds) h)else .bad
   |none=>ni X f ds h,X)
noncomputable def run(F:List Fn)(w n:Nat):aL:=(runs F w n).1
noncomputable def cj(F:List Fn)(w n:Nat):cA:=(runs F w n).2
def gf(F:List Fn)(w n f:Nat)(ds:List D)(h:Hh):run F w (n+1) f ds h=match F[f]? with
  |some fn=>if ds.length=fn.np then endOf (exs (run F w n) w fn.body (dM fn ds) h)else .bad
  |none=>ni (cj F w (n+1)) f ds h:=rfl
def jb(F:List Fn)(w n f:Nat)(ds:List D)(h:Hh):cj F w (n+1) f ds h=match F[f]? with
  |some fn=>if ds.length=fn.np then xss (run F w n) (cj F w n) w fn.body (dM fn ds) h else none
  |none=>none:=rfl
mutual
noncomputable def nM(rz:List Nat):E->Bool
 |.cl f es=>!rz.contains f&&yY rz es
 |.ix a _=>nM rz a
 |.me _ _ es=>yY rz es
 |_=>true
noncomputable def yY(rz:List Nat):Es->Bool
 |.nil=>true
 |.cons e es=>nM rz e&&yY rz es
end
mutual
noncomputable def qY(rz:List Nat):S->Bool
 |.eU _=>false
 |.set _ e=>nM rz e
 |.exp e=>nM rz e
 |.ret e=>nM rz e
 |.iff t a b=>nM rz t&&(lH rz a&&lH rz b)
 |.for _ _ b=>lH rz b
 |.jU _ b=>lH rz b
 |_=>true
noncomputable def lH(rz:List Nat):Ss->Bool
 |.nil=>true
 |.cons s ss=>qY rz s&&lH rz ss
end
section
variable{P:aL}{X:cA}{w:Nat}{rz:List Nat}(hz:∀f,rz.contains f=false->∀ds h,X f ds h=none)
include hz
mutual
theorem qh:∀(e:E) {fr:Fr}{h:Hh},nM rz e=true->xe P X e fr h=none
 |.cl f es,fr,h,z=>by
  simp only[nM,GY,aaX]at z;simp only[xe];split
  .exact hz f z.1 _ _
  .exact AQ es z.2
 |.ix a b,fr,h,z=>by
  simp only[nM]at z;simp only[xe];exact qh a z
 |.me m o es,fr,h,z=>by
  simp only[nM]at z;simp only[xe];split
  .split
   .exact AQ es z
   .rfl
  .rfl
 |.c _,_,_,_=>rfl|.v _,_,_,_=>rfl|.tup _,_,_,_=>rfl|.lst _,_,_,_=>rfl
 |.bin _ _ _,_,_,_=>rfl|.cmp _ _ _,_,_,_=>rfl
 |.nt _,_,_,_=>rfl|.neg _,_,_,_=>rfl|.an _ _,_,_,_=>rfl|.orr _ _,_,_,_=>rfl|.iX _ _ _,_,_,_=>rfl
 |.sl _ _ _,_,_,_=>rfl
 |.jS _,_,_,_=>rfl
 |.fh _ _,_,_,_=>rfl
 |.bi _ _,_,_,_=>rfl
 |.comp _ _ _ _,_,_,_=>rfl|.gU _,_,_,_=>rfl
 |.gY _ _,_,_,_=>rfl|.gy _,_,_,_=>rfl
 |.jT _,_,_,_=>rfl|.ku _ _,_,_,_=>rfl
theorem AQ:∀(es:Es) {fr:Fr}{h:Hh},yY rz es=true->xa P X es fr h=none
 |.nil,_,_,_=>rfl
 |.cons e es,fr,h,z=>by
  simp only[yY,GY]at z;simp only[xa];split
  .exact AQ es z.2
  .exact qh e z.1
end
omit hz in
theorem nN{f:D->Fr->Hh->R (Fl×Fr)}{g:D->Fr->Hh->XR}{ck:List (Nat×List D)}(hg:∀d fr h,g d fr h=none):∀(ds:List D) (fr:Fr) (h:Hh),fP f g ck ds fr h=none
 |[],_,_=>rfl
 |d :: ds,fr,h=>by
  simp only[fP];split
  .split
   .exact nN hg ds _ _
   .exact nN hg ds _ _
   .rfl
   .exact hg _ _ _
  .rfl
omit hz in
theorem nO{t:Fr->Hh->R Bool}{f:Fr->Hh->R (Fl×Fr)}{g:Fr->Hh->XR}(hg:∀fr h,g fr h=none):∀(n:Nat) (fr:Fr) (h:Hh),gz t f g n fr h=none
 |0,_,_=>rfl
 |n+1,fr,h=>by
  simp only[gz];split
  .split
   .exact nO hg n _ _
   .exact nO hg n _ _
   .rfl
   .exact hg _ _
  .rfl
mutual
theorem VB:∀(s:S) {fr:Fr}{h:Hh},qY rz s=true->xs P X w s fr h=none
 |.eU c,_,_,z=>by simp[qY]at z
 |.set i e,fr,h,z=>by simp only[qY]at z;simp only[xs];exact qh hz e z
 |.exp e,fr,h,z=>by simp only[qY]at z;simp only[xs];exact qh hz e z
 |.ret e,fr,h,z=>by simp only[qY]at z;simp only[xs];exact qh hz e z
 |.iff t a b,fr,h,z=>by
  simp only[qY,GY]at z;simp only[xs];split
  .split
   .exact mR a z.2.1
   .exact mR b z.2.2
  .exact qh hz t z.1
 |.for t it b,fr,h,z=>by
  simp only[qY]at z;simp only[xs];split
  .refine nN (λd fr h=>?_) _ _ _;split
   .exact mR b z
   .rfl
  .rfl
 |.jU t b,fr,h,z=>by
  simp only[qY]at z;simp only[xs];exact nO (λfr h=>mR b z) _ _ _
 |.iA _ _,_,_,_=>rfl
 |.tr _ _ _,_,_,_=>rfl
theorem mR:∀(s:Ss) {fr:Fr}{h:Hh},lH rz s=true->xss P X w s fr h=none
 |.nil,_,_,_=>rfl
 |.cons s ss,fr,h,z=>by
  simp only[lH,GY]at z;simp only[xss];split
  .exact mR ss z.2
  .rfl
  .exact VB s z.1
end
end
noncomputable def pU(rz:List Nat):Nat->List Fn->Bool
 |_,[]=>true
 |k,fn :: r=>(rz.contains k ||lH rz fn.body)&&pU rz (k+1) r
theorem pU.get{rz:List Nat}:∀{F:List Fn}{k f:Nat}{fn:Fn},pU rz k F=true->F[f]?=some fn->rz.contains (k+f)=false->lH rz fn.body=true
 |_ :: r,k,0,fn,z,e,n=>by
  simp only[pU,GY,aaL]at z;cases e;rcases z.1 with z|z
  .rw[Nat.add_zero,z]at n;cases n
  .exact z
 |_ :: r,k,f+1,fn,z,e,n=>by
  simp only[pU,GY]at z;exact pU.get (F:=r) (k:=k+1) (f:=f) z.2 (by simpa using e) (by rw[show k+1+f=k+(f+1)by omega];exact n)
theorem yZ{F:List Fn}{rz:List Nat}(hF:pU rz 0 F=true)(w:Nat):∀(n f:Nat),rz.contains f=false->∀ds h,cj F w n f ds h=none
 |0,_,_,_,_=>rfl
 |n+1,f,k,ds,h=>by
  rw[jb];cases y:F[f]? with
  |none=>rfl
  |some fn=>
   simp only;split
   .exact mR (yZ hF w n) _ (pU.get hF y (by rw[acO];exact k))
   .rfl
section
variable{P:aL}{X:cA}{w:Nat}(hX:∀f ds h r,X f ds h=some r->P f ds h=.bad)
include hX
mutual
theorem eV:∀(e:E) {fr:Fr}{h:Hh}{r:Nat×Hh},xe P X e fr h=some r->ev P e fr h=.bad/\aH P e fr h=.bad
 |.cl f es,fr,h,r,z=>by
  simp only[xe]at z;have q:ev P (.cl f es) fr h=.bad:=by
   rw[ev];cases y:bU P es fr h with
   |ok ds h1=>rw[y]at z;exact hX _ _ _ _ z
   |bad=>rfl
  exact⟨q,by rw[aH,q];rfl;all_goals (intros;contradiction)⟩
 |.ix a b,fr,h,r,z=>by
  simp only[xe]at z;have q:ev P (.ix a b) fr h=.bad:=by rw[ev,(eV a z).1];rfl
  exact⟨q,by rw[aH,q];rfl;all_goals (intros;contradiction)⟩
 |.me m o es,fr,h,r,z=>by
  simp only[xe]at z;have q:ev P (.me m o es) fr h=.bad:=by
   rw[ev];cases y:ev P o fr h with
   |ok x h1=>
    rw[y]at z;simp only at z;split at z
    .rename_i k;simp only[ak,mD k];rw[vV es z];rfl
    .cases z
   |bad=>rfl
  exact⟨q,by rw[aH,q];rfl;all_goals (intros;contradiction)⟩
 |.c _,_,_,_,z=>nomatch z|.v _,_,_,_,z=>nomatch z|.tup _,_,_,_,z=>nomatch z|.lst _,_,_,_,z=>nomatch z
 |.bin _ _ _,_,_,_,z=>nomatch z|.cmp _ _ _,_,_,_,z=>nomatch z
 |.nt _,_,_,_,z=>nomatch z|.neg _,_,_,_,z=>nomatch z|.an _ _,_,_,_,z=>nomatch z|.orr _ _,_,_,_,z=>nomatch z|.iX _ _ _,_,_,_,z=>nomatch z
 |.sl _ _ _,_,_,_,z=>nomatch z
 |.jS _,_,_,_,z=>nomatch z
 |.fh _ _,_,_,_,z=>nomatch z
 |.bi _ _,_,_,_,z=>nomatch z
 |.comp _ _ _ _,_,_,_,z=>nomatch z|.gU _,_,_,_,z=>nomatch z
 |.gY _ _,_,_,_,z=>nomatch z|.gy _,_,_,_,z=>nomatch z
 |.jT _,_,_,_,z=>nomatch z|.ku _ _,_,_,_,z=>nomatch z
theorem vV:∀(es:Es) {fr:Fr}{h:Hh}{r:Nat×Hh},xa P X es fr h=some r->bU P es fr h=.bad
 |.nil,_,_,_,z=>nomatch z
 |.cons e es,fr,h,r,z=>by
  simp only[xa]at z;rw[bU];cases y:ev P e fr h with
  |ok d h1=>rw[y]at z;simp only[ak];rw[vV es z];rfl
  |bad=>rfl
end
omit hX in
theorem iB{f:D->Fr->Hh->R (Fl×Fr)}{g:D->Fr->Hh->XR}{ck:List (Nat×List D)}(hg:∀d fr h r,g d fr h=some r->f d fr h=.bad):∀(ds:List D) {fr:Fr}{h:Hh}{r:Nat×Hh},fP f g ck ds fr h=some r->forL f ck ds fr h=.bad
 |[],_,_,_,z=>nomatch z
 |d :: ds,fr,h,r,z=>by
  simp only[fP]at z;split at z
  case isFalse=>cases z
  rename_i k;simp only[forL,mD k];split at z
  .rename_i e;rw[e];exact iB hg ds z
  .rename_i e;rw[e];exact iB hg ds z
  .cases z
  .rw[hg _ _ _ _ z];rfl
omit hX in
theorem iC{t:Fr->Hh->R Bool}{f:Fr->Hh->R (Fl×Fr)}{g:Fr->Hh->XR}(hg:∀fr h r,g fr h=some r->f fr h=.bad):∀(n:Nat) {fr:Fr}{h:Hh}{r:Nat×Hh},gz t f g n fr h=some r->di t f n fr h=.bad
 |0,_,_,_,z=>nomatch z
 |n+1,fr,h,r,z=>by
  simp only[gz]at z;split at z
  case h_2=>cases z
  rename_i e0;simp only[di,e0,ak,aan];split at z
  .rename_i e;rw[e];exact iC hg n z
  .rename_i e;rw[e];exact iC hg n z
  .cases z
  .rw[hg _ _ _ z];rfl
mutual
theorem nP:∀(s:S) {fr:Fr}{h:Hh}{r:Nat×Hh},xs P X w s fr h=some r->ex P w s fr h=.bad
 |.eU c,_,_,_,_=>by rw[ex]
 |.set i e,fr,h,r,z=>by rw[ex,(eV hX e z).1];rfl
 |.exp e,fr,h,r,z=>by rw[ex,(eV hX e z).1];rfl
 |.ret e,fr,h,r,z=>by rw[ex,(eV hX e z).1];rfl
 |.iff t a b,fr,h,r,z=>by
  simp only[xs]at z;rw[ex];cases y:aH P t fr h with
  |bad=>rfl
  |ok k h1=>
   rw[y]at z;simp only at z;simp only[ak];cases k with
   |true=>exact dj a z
   |false=>exact dj b z
 |.for t it b,fr,h,r,z=>by
  simp only[xs]at z;rw[ex];cases y:cy P it fr h with
  |bad=>rfl
  |ok s h1=>
   rw[y]at z;simp only at z;simp only[ak];refine iB (λd fr h r q=>?_) _ z;cases k:bJ t d fr with
   |none=>rw[k]at q
   |some bR=>rw[k]at q;exact dj b q
 |.jU t b,fr,h,r,z=>by
  simp only[xs]at z;rw[ex];exact iC (λfr h r q=>dj b q) _ z
 |.iA _ _,_,_,_,z=>nomatch z
 |.tr _ _ _,_,_,_,z=>nomatch z
theorem dj:∀(s:Ss) {fr:Fr}{h:Hh}{r:Nat×Hh},xss P X w s fr h=some r->exs P w s fr h=.bad
 |.nil,_,_,_,z=>nomatch z
 |.cons s ss,fr,h,r,z=>by
  simp only[xss]at z;rw[exs];split at z
  .rename_i e;rw[e];exact dj ss z
  .cases z
  .rw[nP s z];rfl
end
end
theorem qi(F:List Fn)(w:Nat):∀(n f:Nat) (ds:List D) (h:Hh) (r:Nat×Hh),cj F w n f ds h=some r->run F w n f ds h=.bad
 |0,_,_,_,_,_=>rfl
 |n+1,f,ds,h,r,z=>by
  rw[jb]at z;rw[gf];cases y:F[f]? with
  |none=>rw[y]at z;cases z
  |some fn=>
   rw[y]at z;simp only at z ⊢;split at z
   .rename_i k;rw[mD k,dj (qi F w n) _ z];rfl
   .cases z
end Ev
namespace Sm
open PySem PySem.Spec PyProof.Rows L2
noncomputable def aQ(l:List Nat):Str:=⟨l.toArray⟩
def cO(l:List Nat):(aQ l).length=l.length:=by simp[aQ,Str.length]
def oW{a b:List Nat}(h:aQ a=aQ b):a=b:=by
 have h1:a.toArray=b.toArray:=aab Str.cps h;simpa using aab Array.toList h1
def jG:Ev.big=sizeLine:=by rw[aaS];rfl
section
variable(K:PySem.W.Frag)
mutual
noncomputable def RV(H:Hp)(r:List Addr):Ev.D->V->Prop
 |.aU,v=>v=.aU
 |.bl b,v=>v=.bl b
 |.int i,v=>v=.int i
 |.str s,v=>v=.str (aQ s)/\s.length<=sizeLine
 |.ref n,v=>∃a,v=.ref a/\r[n]?=some a
 |.tup ds,v=>∃a vs,v=.ref a/\dJ K H a vs/\aJ H r ds vs
noncomputable def aJ(H:Hp)(r:List Addr):List Ev.D->List V->Prop
 |[],vs=>vs=[]
 |d :: ds,vs=>∃v w,vs=v :: w/\RV H r d v/\aJ H r ds w
end
noncomputable def AR(H:Hp)(a:Addr)(vs:List V):Prop:=(∃o,H a=some (.bY o (.lst vs)))\/
 ∃(o:Obj) (its:Array Value) (n:Nat),K.lookup a=some o/\o.cls=.type "list" /\o.dict=none/\o.data=.seq its n/\its.size<=sizeLine/\Vals vs its.toList
noncomputable def lI(kvs:List (List Nat×List Nat)):List (Key×V):=kvs.map λp=>(Sum.inr (aQ p.1),V.str (aQ p.2))
noncomputable def RO(H:Hp)(r:List Addr):Ev.O->Addr->Prop
 |.lst ds,a=>∃vs,H a=some (.lst vs)/\aJ K H r ds vs
 |.bY ds,a=>∃vs,AR K H a vs/\aJ K H r ds vs
 |.dw kvs,a=>H a=some (.dK (lI kvs))/\kvs≠[]/\∀p∈kvs,p.2.length<=sizeLine
structure HR(H:Hp)(r:List Addr)(h:Ev.Hh):Prop where
 len:r.length=h.length
 ob:∀(n:Nat) o,h[n]?=some o->∃a,r[n]?=some a/\RO K H r o a
 inj:∀(n m:Nat) a x y,r[n]?=some a->r[m]?=some a->h[n]?=some (.lst x)->h[m]?=some (.lst y)->n=m
structure Fm(r r':List Addr)(H H':Hp):Prop where
 pre:∀(n:Nat) a,r[n]?=some a->r'[n]?=some a
 new:∀a∈r',a∈r\/H a=none
 keep:∀a o,H a=some o->a∉r->H' a=some o
 tups:∀a vs,dJ K H a vs->dJ K H' a vs
end
section
variable{K:PySem.W.Frag}{H H1 H2:Hp}{r r1 r2:List Addr}{h:Ev.Hh}
def Fm.refl:Fm K r r H H:=⟨λ_ _ e=>e,λ_ e=>.inl e,λ_ _ e _=>e,λ_ _ e=>e⟩
def Fm.trans(a:Fm K r r1 H H1)(b:Fm K r1 r2 H1 H2):Fm K r r2 H H2 where
 pre:=λn x e=>b.pre n x (a.pre n x e)
 new:=λx e=>by
  rcases b.new x e with q|q
  .exact a.new x q
  .by_cases z:x∈r
   .exact .inl z
   .refine .inr ?_;cases w:H x with
    |none=>rfl
    |some o=>rw[a.keep x o w z]at q;cases q
 keep:=λx o e n=>by
  refine b.keep x o (a.keep x o e n) λz=>?_;rcases a.new x z with q|q
  .exact n q
  .rw[e]at q;cases q
 tups:=λx vs e=>b.tups x vs (a.tups x vs e)
mutual
theorem RV.grow(f:∀(n:Nat) a,r[n]?=some a->r1[n]?=some a)(g:∀a vs,dJ K H a vs->dJ K H1 a vs):∀{d:Ev.D}{v:V},RV K H r d v->RV K H1 r1 d v
 |.aU,_,e=>e
 |.bl _,_,e=>e
 |.int _,_,e=>e
 |.str _,_,e=>e
 |.ref n,_,⟨a,e,z⟩=>⟨a,e,f n a z⟩
 |.tup ds,_,⟨a,vs,e,z,q⟩=>⟨a,vs,e,g a vs z,aJ.grow f g q⟩
theorem aJ.grow(f:∀(n:Nat) a,r[n]?=some a->r1[n]?=some a)(g:∀a vs,dJ K H a vs->dJ K H1 a vs):∀{ds:List Ev.D}{vs:List V},aJ K H r ds vs->aJ K H1 r1 ds vs
 |[],_,e=>e
 |_ :: _,_,⟨v,w,e,z,q⟩=>⟨v,w,e,RV.grow f g z,aJ.grow f g q⟩
end
def RV.mono(f:Fm K r r1 H H1){d:Ev.D}{v:V}(q:RV K H r d v):RV K H1 r1 d v:=q.grow f.pre f.tups
def aJ.mono(f:Fm K r r1 H H1){ds:List Ev.D}{vs:List V}(q:aJ K H r ds vs):aJ K H1 r1 ds vs:=q.grow f.pre f.tups
def aJ.nil:aJ K H r [] []:=by simp[aJ]
def aJ.cons{d:Ev.D}{v:V}{ds:List Ev.D}{vs:List V}(a:RV K H r d v)(b:aJ K H r ds vs):aJ K H r (d :: ds) (v :: vs):=by
 simp only[aJ];exact⟨v,vs,rfl,a,b⟩
theorem aJ.length:∀{ds:List Ev.D}{vs:List V},aJ K H r ds vs->vs.length=ds.length
 |[],_,e=>by simp only[aJ]at e;subst e;rfl
 |_ :: _,_,e=>by
  simp only[aJ]at e;obtain⟨v,w,rfl,_,q⟩:=e;simp[aJ.length q]
theorem aJ.get:∀{ds:List Ev.D}{vs:List V}{i:Nat}{d:Ev.D},aJ K H r ds vs->ds[i]?=some d->∃v,vs[i]?=some v/\RV K H r d v
 |[],_,_,_,_,e=>by simp at e
 |_ :: _,_,0,_,h,e=>by
  simp only[aJ]at h;obtain⟨v,w,rfl,z,q⟩:=h;simp at e;subst e;exact⟨v,by simp,z⟩
 |_ :: _,_,i+1,_,h,e=>by
  simp only[aJ]at h;obtain⟨v,w,rfl,z,q⟩:=h;obtain⟨u,a,b⟩:=aJ.get (i:=i) q (by simpa using e);exact⟨u,by simpa using a,b⟩
theorem aJ.append:∀{ds es:List Ev.D}{vs ws:List V},aJ K H r ds vs->aJ K H r es ws->aJ K H r (ds++es) (vs++ws)
 |[],_,_,_,a,b=>by simp only[aJ]at a;subst a;simpa using b
 |_ :: _,_,_,_,a,b=>by
  simp only[aJ]at a;obtain⟨v,w,rfl,z,q⟩:=a;simp only[aak];exact .cons z (aJ.append q b)
theorem aJ.take:∀{ds:List Ev.D}{vs:List V}(n:Nat),aJ K H r ds vs->aJ K H r (ds.take n) (vs.take n)
 |_,_,0,_=>by simp[aJ]
 |[],_,_+1,a=>by simp only[aJ]at a;subst a;simp[aJ]
 |_ :: _,_,n+1,a=>by
  simp only[aJ]at a;obtain⟨v,w,rfl,z,q⟩:=a;simp only[aa0];exact .cons z (aJ.take n q)
theorem aJ.drop:∀{ds:List Ev.D}{vs:List V}(n:Nat),aJ K H r ds vs->aJ K H r (ds.drop n) (vs.drop n)
 |_,_,0,a=>by simpa using a
 |[],_,_+1,a=>by simp only[aJ]at a;subst a;simp[aJ]
 |_ :: _,_,n+1,a=>by
  simp only[aJ]at a;obtain⟨v,w,rfl,z,q⟩:=a;simp only[ab6];exact aJ.drop n q
theorem aJ.reverse:∀{ds:List Ev.D}{vs:List V},aJ K H r ds vs->aJ K H r ds.reverse vs.reverse
 |[],_,a=>by simp only[aJ]at a;subst a;simp[aJ]
 |_ :: _,_,a=>by
  simp only[aJ]at a;obtain⟨v,w,rfl,z,q⟩:=a;simp only[aay];exact(aJ.reverse q).append (.cons z .nil)
theorem aJ.set:∀{ds:List Ev.D}{vs:List V}(i:Nat) {d:Ev.D}{v:V},aJ K H r ds vs->RV K H r d v->aJ K H r (ds.set i d) (vs.set i v)
 |[],_,_,_,_,a,_=>by simp only[aJ]at a;subst a;simp[aJ]
 |_ :: _,_,0,_,_,a,b=>by
  simp only[aJ]at a;obtain⟨v,w,rfl,z,q⟩:=a;simp only[List.set_cons_zero];exact .cons b q
 |_ :: _,_,i+1,_,_,a,b=>by
  simp only[aJ]at a;obtain⟨v,w,rfl,z,q⟩:=a;simp only[List.set_cons_succ];exact .cons z (aJ.set i q b)
theorem aJ.rep{ds:List Ev.D}{vs:List V}(a:aJ K H r ds vs):∀k:Nat,aJ K H r (Ev.rep k ds) (Ev.rep k vs)
 |0=>by simp[Ev.rep,aJ]
 |k+1=>by
  have h:=aJ.rep a k;simp only[Ev.rep,xZ,aaW]at h ⊢;exact a.append h
def Fm.laid{p:Addr}{o:HO}(hp:H p=none):Fm K r (r++[p]) H (upd H p o) where
 pre:=λn a e=>by rw[UK (List.getElem?_eq_some_iff.mp e).1];exact e
 new:=λa e=>by
  rcases List.mem_append.mp e with q|q
  .exact .inl q
  .rw[abD]at q;subst q;exact .inr hp
 keep:=λa ob e _=>by rw[bf (bG e hp)];exact e
 tups:=λa vs e=>by
  rcases e with (e|⟨ob,e⟩)|e
  .exact .inl (.inl (by rw[bf (bG e hp)];exact e))
  .exact .inl (.inr ⟨ob,by rw[bf (bG e hp)];exact e⟩)
  .exact .inr e
def Fm.tup{p:Addr}{o:HO}(hp:H p=none):Fm K r r H (upd H p o) where
 pre:=λn a e=>e
 new:=λa e=>.inl e
 keep:=λa ob e _=>by rw[bf (bG e hp)];exact e
 tups:=(Fm.laid (r:=r) hp).tups
theorem RO.mono{o:Ev.O}{a:Addr}(f:Fm K r r1 H H1)(q:RO K H r o a)(hl:∀ds vs,o=.lst ds->H a=some (.lst vs)->H1 a=some (.lst vs))(hf:∀ob vs,H a=some (.bY ob vs)->H1 a=some (.bY ob vs))
  (hs:∀kvs,o=.dw kvs->H a=some (.dK (lI kvs))->kvs≠[]->H1 a=some (.dK (lI kvs)))
  : RO K H1 r1 o a:=by
 cases o with
 |lst ds=>
  obtain⟨vs,e,z⟩:=q;exact⟨vs,hl ds vs rfl e,z.mono f⟩
 |bY ds=>
  obtain⟨vs,e,z⟩:=q;refine⟨vs,?_,z.mono f⟩;rcases e with ⟨ob,e⟩|e
  .exact .inl ⟨ob,hf _ _ e⟩
  .exact .inr e
 |dw kvs=>exact⟨hs kvs rfl q.1 q.2.1,q.2⟩
theorem HR.tup{p:Addr}{o:HO}(hr:HR K H r h)(hp:H p=none):HR K (upd H p o) r h where
 len:=hr.len
 ob:=λn ob e=>by
  obtain⟨a,e1,q⟩:=hr.ob n ob e;exact⟨a,e1,q.mono (Fm.tup hp) (λ_ vs _ z=>by rw[bf (bG z hp)];exact z) (λ_ _ z=>by rw[bf (bG z hp)];exact z)
   (λ_ _ z _=>by rw[bf (bG z hp)];exact z)
   ⟩
 inj:=hr.inj
theorem HR.lst{p:Addr}{ds:List Ev.D}{vs:List V}(hr:HR K H r h)(hp:H p=none)(q:aJ K H r ds vs):HR K (upd H p (.lst vs)) (r++[p]) (h++[.lst ds]) where
 len:=by simp[hr.len]
 ob:=λn ob e=>by
  by_cases hn:n<h.length
  .rw[UK hn]at e;obtain⟨a,e1,z⟩:=hr.ob n ob e;exact⟨a,(Fm.laid (K:=K) (o:=.lst vs) hp).pre n a e1,z.mono (Fm.laid hp) (λ_ vs _ z=>by rw[bf (bG z hp)];exact z) (λ_ _ z=>by rw[bf (bG z hp)];exact z)
   (λ_ _ z _=>by rw[bf (bG z hp)];exact z)
    ⟩
  .have e2:=(List.getElem?_eq_some_iff.mp e).1;simp only[PX,aav]at e2;have e3:n=h.length:=by omega
   subst e3;simp at e;subst e;exact⟨p,by rw[<-hr.len];simp,vs,cz,q.mono (Fm.laid hp)⟩
 inj:=λn m a x y e1 e2 e3 e4=>by
  have out:∀(k:Nat) z,(h++[Ev.O.lst ds])[k]?=some (.lst z)->(r++[p])[k]?=some a->(k<h.length/\r[k]?=some a/\h[k]?=some (.lst z)/\a≠p)\/(k=h.length/\a=p):=λk z q1 q2=>by
   by_cases hk:k<h.length
   .rw[UK hk]at q1;rw[UK (by rw[hr.len];exact hk)]at q2;obtain⟨b,e5,vs',e6,_⟩:=hr.ob k _ q1;rw[q2]at e5;cases e5;exact .inl ⟨hk,q2,q1,bG e6 hp⟩
   .have e5:=(List.getElem?_eq_some_iff.mp q1).1;simp only[PX,aav]at e5;have e6:k=r.length:=by rw[hr.len];omega
    subst e6;simp at q2;exact .inr ⟨hr.len,q2.symm⟩
  rcases out n x e3 e1 with ⟨h1,h2,h3,h4⟩|⟨h1,h2⟩
  .rcases out m y e4 e2 with ⟨k1,k2,k3,k4⟩|⟨k1,k2⟩
   .exact hr.inj n m a x y h2 k2 h3 k3
   .exact absurd k2 h4
  .rcases out m y e4 e2 with ⟨k1,k2,k3,k4⟩|⟨k1,k2⟩
   .exact absurd h2 k4
   .rw[h1,k1]
theorem HR.dw{n:Nat}{kvs:List (List Nat×List Nat)}(hr:HR K H r h)(e:h[n]?=some (.dw kvs)):∃a,r[n]?=some a/\H a=some (.dK (lI kvs))/\kvs≠[]/\∀p∈kvs,p.2.length<=sizeLine:=by
 obtain⟨a,e1,e2,e3⟩:=hr.ob n _ e;exact⟨a,e1,e2,e3⟩
def HR.read{n:Nat}{ds:List Ev.D}(hr:HR K H r h)(e:Ev.bx h n=some ds):∃a vs,r[n]?=some a/\eL K H a vs/\aJ K H r ds vs:=by
 unfold Ev.bx at e;split at e
 .rename_i z;cases e;obtain⟨a,e1,vs,e2,e3⟩:=hr.ob n _ z;exact⟨a,vs,e1,.inl (.inl e2),e3⟩
 .rename_i z;cases e;obtain⟨a,e1,vs,e2,e3⟩:=hr.ob n _ z;refine⟨a,vs,e1,?_,e3⟩;rcases e2 with ⟨ob,e2⟩|e2
  .exact .inl (.inr ⟨ob,e2⟩)
  .exact .inr e2
 .cases e
def Fm.write{a:Addr}{vs ws:List V}(ha:H a=some (.lst vs))(hm:a∈r):Fm K r r H (upd H a (.lst ws)) where
 pre:=λn b e=>e
 new:=λb e=>.inl e
 keep:=λb ob e n=>by rw[bf (λz=>n (by rw[z];exact hm))];exact e
 tups:=λb us e=>by
  rcases e with (e|⟨ob,e⟩)|e
  .exact .inl (.inl (by rw[bf (oR e ha (by intro z;cases z))];exact e))
  .exact .inl (.inr ⟨ob,by rw[bf (oR e ha (by intro z;cases z))];exact e⟩)
  .exact .inr e
theorem HR.write{n:Nat}{a:Addr}{ds es:List Ev.D}{vs ws:List V}(hr:HR K H r h)(hn:h[n]?=some (.lst ds))(MN:r[n]?=some a)(ha:H a=some (.lst vs))(q:aJ K H r es ws) :
  HR K (upd H a (.lst ws)) r (h.set n (.lst es)) where
 len:=by simp[hr.len]
 ob:=λm ob e=>by
  have f:=Fm.write (K:=K) (ws:=ws) ha (aal MN);by_cases hm:m=n
  .subst hm;rw[WS (List.getElem?_eq_some_iff.mp hn).1]at e;cases e;exact⟨a,MN,ws,cz,q.mono f⟩
  .rw[UJ (λz=>hm z.symm)]at e;obtain⟨b,e1,z⟩:=hr.ob m ob e;refine⟨b,e1,z.mono f (λW6 us z3 z2=>?_) (λYN us z2=>by rw[bf (oR z2 ha (by intro z;cases z))];exact z2)
    (λ_ _ z2 _=>by rw[bf (oR z2 ha (by intro z;cases z))];exact z2)
    ⟩
   by_cases hb:b=a
   .subst hb;subst z3;exact absurd (hr.inj m n b W6 ds e1 MN e hn) hm
   .rw[bf hb];exact z2
 inj:=λk m b x y e1 e2 e3 e4=>by
  have back:∀(j:Nat) z,(h.set n (Ev.O.lst es))[j]?=some (.lst z)->∃z',h[j]?=some (.lst z'):=λj z w=>by
   by_cases hj:j=n
   .subst hj;exact⟨ds,hn⟩
   .rw[UJ (λz=>hj z.symm)]at w;exact⟨z,w⟩
  obtain⟨x',e5⟩:=back k x e3;obtain⟨y',e6⟩:=back m y e4;exact hr.inj k m b x' y' e1 e2 e5 e6
def jc{p:Addr}{vs ws:List V}(hp:H p=some (.lst vs)):∀a us,dJ K H a us->dJ K (upd H p (.lst ws)) a us:=λb us e=>by
 rcases e with (e|⟨ob,e⟩)|e
 .exact .inl (.inl (by rw[bf (oR e hp (by intro z;cases z))];exact e))
 .exact .inl (.inr ⟨ob,by rw[bf (oR e hp (by intro z;cases z))];exact e⟩)
 .exact .inr e
def HR.other{p:Addr}{vs ws:List V}(hr:HR K H r h)(hp:H p=some (.lst vs))(hn:p∉r):HR K (upd H p (.lst ws)) r h where
 len:=hr.len
 ob:=λn ob e=>by
  obtain⟨a,e1,q⟩:=hr.ob n ob e;have ha:a≠p:=λz=>hn (by rw[<-z];exact aal e1);refine⟨a,e1,?_⟩;cases ob with
  |lst ds=>
   obtain⟨us,e2,e3⟩:=q;exact⟨us,by rw[bf ha];exact e2,e3.grow (λ_ _ z=>z) (jc hp)⟩
  |bY ds=>
   obtain⟨us,e2,e3⟩:=q;refine⟨us,?_,e3.grow (λ_ _ z=>z) (jc hp)⟩;rcases e2 with ⟨o,e2⟩|e2
   .exact .inl ⟨o,by rw[bf ha];exact e2⟩
   .exact .inr e2
  |dw kvs=>exact⟨by rw[bf ha];exact q.1,q.2⟩
 inj:=hr.inj
def Fm.other{p:Addr}{vs ws:List V}(f:Fm K r r1 H H1)(h0:H p=none)(hp:H1 p=some (.lst vs)):Fm K r r1 H (upd H1 p (.lst ws)) where
 pre:=f.pre
 new:=f.new
 keep:=λa o e n=>by rw[bf (bG e h0)];exact f.keep a o e n
 tups:=λa us e=>jc hp a us (f.tups a us e)
def Fm.AS{p:Addr}{o:HO}(f:Fm K r r1 H H1)(hp:H p=some o)(hn:p∉r):p∉r1/\H1 p=some o:=by
 refine⟨λz=>?_,f.keep p o hp hn⟩;rcases f.new p z with q|q
 .exact hn q
 .rw[hp]at q;cases q
def HR.known{p:Addr}{ds:List Ev.D}{vs:List V}(hr:HR K H r h)(hp:H p=some (.lst vs))(hn:p∉r)(q:aJ K H r ds vs):HR K H (r++[p]) (h++[.lst ds]):=by
 have pre:∀(n:Nat) a,r[n]?=some a->(r++[p])[n]?=some a:=λn a e=>by rw[UK (List.getElem?_eq_some_iff.mp e).1];exact e
 refine⟨by simp[hr.len],λn ob e=>?_,λn m a x y e1 e2 e3 e4=>?_
  ⟩
 .by_cases hk:n<h.length
  .rw[UK hk]at e;obtain⟨a,e1,z⟩:=hr.ob n ob e;refine⟨a,pre n a e1,?_⟩;cases ob with
   |lst ds=>obtain⟨us,e2,e3⟩:=z;exact⟨us,e2,e3.grow pre λ_ _ z=>z⟩
   |bY ds=>obtain⟨us,e2,e3⟩:=z;exact⟨us,e2,e3.grow pre λ_ _ z=>z⟩
   |dw kvs=>exact z
  .have e2:=(List.getElem?_eq_some_iff.mp e).1;simp only[PX,aav]at e2;have e3:n=h.length:=by omega
   subst e3;simp at e;subst e;exact⟨p,by rw[<-hr.len];simp,vs,hp,q.grow pre λ_ _ z=>z⟩
 .have out:∀(k:Nat) z,(h++[Ev.O.lst ds])[k]?=some (.lst z)->(r++[p])[k]?=some a->(k<h.length/\r[k]?=some a/\h[k]?=some (.lst z)/\a≠p)\/(k=h.length/\a=p):=λk z q1 q2=>by
   by_cases hk:k<h.length
   .rw[UK hk]at q1;rw[UK (by rw[hr.len];exact hk)]at q2;exact .inl ⟨hk,q2,q1,λz=>hn (by rw[<-z];exact aal q2)⟩
   .have e5:=(List.getElem?_eq_some_iff.mp q1).1;simp only[PX,aav]at e5;have e6:k=r.length:=by rw[hr.len];omega
    subst e6;simp at q2;exact .inr ⟨hr.len,q2.symm⟩
  rcases out n x e3 e1 with ⟨h1,h2,h3,h4⟩|⟨h1,h2⟩
  .rcases out m y e4 e2 with ⟨k1,k2,k3,k4⟩|⟨k1,k2⟩
   .exact hr.inj n m a x y h2 k2 h3 k3
   .exact absurd k2 h4
  .rcases out m y e4 e2 with ⟨k1,k2,k3,k4⟩|⟨k1,k2⟩
   .exact absurd h2 k4
   .rw[h1,k1]
def Fm.known{p:Addr}(f:Fm K r r1 H H1)(h0:H p=none):Fm K r (r1++[p]) H H1 where
 pre:=λn a e=>by
  have e':=f.pre n a e;rw[UK (List.getElem?_eq_some_iff.mp e').1];exact e'
 new:=λa e=>by
  rcases List.mem_append.mp e with q|q
  .exact f.new a q
  .rw[abD]at q;subst q;exact .inr h0
 keep:=f.keep
 tups:=f.tups
end
end Sm
namespace Sm
open PySem PySem.Spec PyProof.Rows L2
open Ev (D O Hh Fr R aL E Es Eo It T S Ss Fl Src bw bq TY BI ME)
section
variable(K:PySem.W.Frag)
noncomputable def Res(r:List Addr)(H:Hp)(h':Hh)(d:D)(Q:VK):Prop:=∀v H' r',RV K H' r' d v->HR K H' r' h'->Fm K r r' H H'->Q v H'
structure SR(m:List Nat)(H:Hp)(r:List Addr)(fr:Fr)(s:L2.St):Prop where
 len:s.length=m.length
 sl:∀(j i:Nat) d,m[j]?=some i->fr[i]?=some (some d)->∃v,s[j]?=some (some v)/\RV K H r d v
inductive tJ(m:List Nat)(P:aL)(e:E)(s:L2.St)(H:Hp)(Q:VK):Prop
 |mk (r:List Addr) (fr:Fr) (h:Hh) (d:D) (h':Hh) (c0:SR K m H r fr s) (c1:HR K H r h) (c2:Ev.ev P e fr h=.ok d h') (c3:Res K r H h' d Q):tJ m P e s H Q
inductive Hs(m:List Nat)(P:aL)(e:E)(s:L2.St)(H:Hp)(Q:Bool->Hp->Prop):Prop
 |mk (r:List Addr) (fr:Fr) (h:Hh) (k:Bool) (h':Hh) (c0:SR K m H r fr s) (c1:HR K H r h) (c2:Ev.aH P e fr h=.ok k h') (c3:∀H' r',HR K H' r' h'->Fm K r r' H H'->Q k H'):Hs m P e s H Q
inductive MO(m:List Nat)(P:aL)(es:Es)(s:L2.St)(H:Hp)(Q:List V->Hp->Prop):Prop
 |mk (r:List Addr) (fr:Fr) (h:Hh) (ds:List D) (h':Hh) (c0:SR K m H r fr s) (c1:HR K H r h) (c2:Ev.bU P es fr h=.ok ds h') (c3:∀vs H' r',aJ K H' r' ds vs->HR K H' r' h'->Fm K r r' H H'->Q vs H'):MO m P es s H Q
inductive Uc(m:List Nat)(P:aL)(e:Eo)(s:L2.St)(H:Hp)(Q:Option Int->Hp->Prop):Prop
 |mk (r:List Addr) (fr:Fr) (h:Hh) (o:Option Int) (h':Hh) (c0:SR K m H r fr s) (c1:HR K H r h) (c2:Ev.gc P e fr h=.ok o h') (c3:∀H' r',HR K H' r' h'->Fm K r r' H H'->Q o H'):Uc m P e s H Q
inductive jH(f:D->D->Hh->R D)(x:V)(y:V)(H:Hp)(Q:VK):Prop
 |mk (r:List Addr) (h:Hh) (a:D) (b:D) (d:D) (h':Hh) (c0:HR K H r h) (c1:RV K H r a x) (c2:RV K H r b y) (c3:f a b h=.ok d h') (c4:Res K r H h' d Q):jH f x y H Q
inductive uF(f:List D->Hh->R D)(xs:List V)(H:Hp)(Q:VK):Prop
 |mk (r:List Addr) (h:Hh) (as:List D) (d:D) (h':Hh) (c0:HR K H r h) (c1:aJ K H r as xs) (c2:f as h=.ok d h') (c3:Res K r H h' d Q):uF f xs H Q
inductive vW(f:D->List D->Hh->R D)(x:V)(xs:List V)(H:Hp)(Q:VK):Prop
 |mk (r:List Addr) (h:Hh) (a:D) (as:List D) (d:D) (h':Hh) (c0:HR K H r h) (c1:RV K H r a x) (c2:aJ K H r as xs) (c3:f a as h=.ok d h') (c4:Res K r H h' d Q):vW f x xs H Q
inductive MP  (x:V) (lo:Option Int) (hi:Option Int) (H:Hp) (Q:VK):Prop
 |mk (r:List Addr) (h:Hh) (a:D) (d:D) (h':Hh) (c0:HR K H r h) (c1:RV K H r a x) (c2:Ev.iZ a lo hi h=.ok d h') (c3:Res K r H h' d Q):MP x lo hi H Q
end
section
variable{K:PySem.W.Frag}{m:List Nat}{H H':Hp}{r r':List Addr}{fr:Fr}{s:L2.St}{h h':Hh}{d:D}{Q:VK}
theorem SR.mono(a:SR K m H r fr s)(f:Fm K r r' H H'):SR K m H' r' fr s:=⟨a.len,λj i d e1 e2=>by
 obtain⟨v,q,z⟩:=a.sl j i d e1 e2;exact⟨v,q,z.mono f⟩⟩
def Res.here{v:V}(q:Res K r H h d Q)(a:RV K H r d v)(b:HR K H r h):Q v H:=q v H r a b .refl
def Res.later(q:Res K r H h' d Q)(f:Fm K r r' H H'):Res K r' H' h' d Q:=λv H2 r2 a b g=>q v H2 r2 a b (f.trans g)
theorem Res.lst{ds:List D}{vs:List V}(q:Res K r H h' d Q)(e:Ev.alloc ds h=.ok d h')(a:aJ K H r ds vs)(b:HR K H r h):vs.length<=sizeLine/\∀p,H p=none->Q (.ref p) (upd H p (.lst vs)):=by
 unfold Ev.alloc at e;split at e
 .rename_i z;cases e;refine⟨by rw[a.length,<-jG];exact z,λp hp=>?_⟩;exact q _ _ (r++[p]) ⟨p,rfl,by rw[<-b.len];simp⟩ (b.lst hp a) (.laid hp)
 .cases e
theorem Res.tup{ds:List D}{vs:List V}(q:Res K r H h (.tup ds) Q)(a:aJ K H r ds vs)(b:HR K H r h){p:Addr}(hp:H p=none):Q (.ref p) (upd H p (.tup vs)):=
 q _ _ r ⟨p,vs,rfl,.of cz,a.mono (.tup hp)⟩ (b.tup hp) (.tup hp)
end
def PE.of{X:Cx}{e:Expr}{t t':TE}(h:PE X e t)(w:∀s H Q,t' s H Q->t s H Q):PE X e t':=λpins s σ H Q I q=>h pins s σ H Q I (w _ _ _ q)
def PT.of{X:Cx}{e:Expr}{t t':TT}(h:PT X e t)(w:∀s H Q,t' s H Q->t s H Q):PT X e t':=λpins s σ H Q I q=>h pins s σ H Q I (w _ _ _ q)
def PW.of{X:Cx}{e:Expr}{t t':TT}(h:PW X e t)(w:∀s H Q,t' s H Q->t s H Q):PW X e t':=λwh pins s σ H Q I q=>h wh pins s σ H Q I (w _ _ _ q)
def PA.of{X:Cx}{es:List Expr}{t t':TA}(h:PA X es t)(w:∀s H Q,t' s H Q->t s H Q):PA X es t':=λpos pins s σ H Q I q=>h pos pins s σ H Q I (w _ _ _ q)
def PO.of{X:Cx}{e:Option Expr}{t t':TO}(h:PO X e t)(w:∀s H Q,t' s H Q->t s H Q):PO X e t':=λpins s σ H Q I q=>h pins s σ H Q I (w _ _ _ q)
structure FI where
 name:Str
 addr:Addr
 fd:FuncData
 ps:List Str
noncomputable def nj(K:PySem.W.Frag)(F:List Ev.Fn)(w n f:Nat):Sp:=λvs H Q _=>∃r h ds d h',aJ K H r ds vs/\HR K H r h/\Ev.run F w n f ds h=.ok d h'/\Res K r H h' d Q
noncomputable def y9(K:PySem.W.Frag)(d:D)(v:V):Prop:=∀H r,RV K H r d v
def y9.rv{K:PySem.W.Frag}{H:Hp}{r:List Addr}{d:D}{v:V}(h:y9 K d v):RV K H r d v:=h H r
structure Tb where
 F:List Ev.Fn
 w:Nat
 fi:List FI
 bl:List Str
 cs:List (Str×D)
 dk:List (Str×List (D×D))
noncomputable def tabOf:List (D×D)->List (PyData×PyData)
 | (.str k,.str v) :: r=>(.str (aQ k),.str (aQ v)) :: tabOf r
 |_=>[]
structure Good(G:Tb)(n:Nat)(sc:Scope)(N:List Str)(df:Bool)(X:Cx):Prop where
 nm:X.N=N
 sc:X.env.scope=sc
 calm:X.calm=true
 own:df=true->∀x,X.fn x=true
 room:fL n X.A
 xe:X.xe=λ_ _=>False
 fn:∀(f:Nat) i,G.fi[f]?=some i->X.mg i.name=some (.ref i.addr)/\PySem.W.keepIn X.K (.ref i.addr)=true/\Binds X.K i.fd i.ps []/\fM X.prog X.w X.K X.mg X.base jR n i.addr i.fd i.ps (nj X.K G.F G.w n f)
 bl:∀x∈G.bl,X.mg x=none
 cs:∀x d,(x,d)∈G.cs->∃v u,X.mg x=some u/\RelV v u/\y9 X.K d v
 dk:∀x kvs,(x,kvs)∈G.dk->∃a,X.mg x=some (.ref a)/\∀h:Heap,X.K.In h->StrTab X.prog X.w h a (tabOf kvs)
section
variable(G:Tb)(n:Nat)(sc:Scope)(N:List Str)(df:Bool)(m:List Nat)
noncomputable def JE(e:E)(x:Expr):Prop:=∀X,Good G n sc N df X->PE X x (tJ X.K m (Ev.run G.F G.w n) e)
noncomputable def JT(e:E)(x:Expr):Prop:=∀X,Good G n sc N df X->PT X x (Hs X.K m (Ev.run G.F G.w n) e)
noncomputable def JW(e:E)(x:Expr):Prop:=∀X,Good G n sc N df X->PW X x (Hs X.K m (Ev.run G.F G.w n) e)
noncomputable def JA(es:Es)(xs:List Expr):Prop:=∀X,Good G n sc N df X->PA X xs (MO X.K m (Ev.run G.F G.w n) es)
noncomputable def JO(e:Eo)(x:Option Expr):Prop:=∀X,Good G n sc N df X->PO X x (Uc X.K m (Ev.run G.F G.w n) e)
end
section
variable{G:Tb}{n:Nat}{sc:Scope}{N:List Str}{df:Bool}{m:List Nat}{a b c:E}{xa xb:Expr}{pos:Pos}
def Good.vis{X:Cx}(g:Good G n sc N df X){x:Str}(h:sc.names.lookup x=some .local\/sc.names.lookup x=some .cell\/sc.names.lookup x=some .free):uo X.env.scope x:=by
 rw[g.sc];exact h
def Good.gl{X:Cx}(g:Good G n sc N df X){x:Str}(h:sc.names.lookup x=some .globalImplicit):Gl X x:=by
 unfold Gl Env.kindOf;rw[g.sc];exact h
def VC(j i:Nat){x:Str}(hj:m[j]?=some i:=by rfl)(hN:N[j]?=some x:=by rfl)
  (hv:sc.names.lookup x=some .local\/sc.names.lookup x=some .cell\/sc.names.lookup x=some .free:=by first|exact Or.inl rfl|exact Or.inr (Or.inl rfl)|exact Or.inr (Or.inr rfl))
  (hd:(x==("__debug__" : Str))=false:=by decide) (hcd:(x==("__classdict__" : Str))=false:=by decide):JE G n sc N df m (.v i) (.Name x pos):=by
 intro X g;refine PE.of (qP (i:=j) (by rw[g.nm];exact hN) (g.vis hv) hd hcd) λs H Q q=>?_;obtain⟨r,fr,h,d,h',sr,hr,e,q⟩:=q;simp only[Ev.ev]at e;obtain⟨e2,e3⟩:=Ev.aM e;subst e3;obtain⟨v,q1,q2⟩:=sr.sl j i d hj (by
  cases z:fr[i]? with
  |none=>rw[z]at e2;cases e2
  |some o=>
   rw[z]at e2;have e':o=some d:=e2;rw[e'])
 exact⟨v,q1,q.here q2 hr⟩
def vg{K:PySem.W.Frag}{P:aL}{d:D}{v:V}(hc:y9 K d v):∀s H Q,tJ K m P (.c d) s H Q->tC v s H Q:=λs H Q q=>by
 obtain⟨r,fr,h,d',h',sr,hr,e,q⟩:=q;simp only[Ev.ev]at e;cases e;exact q.here hc.rv hr
def MQ{i:Int}{j}:JE G n sc N df m (.c (.int i)) (.Constant (.int i) j pos):=λX g=>PE.of B9 (vg λ_ _=>rfl)
def Rx{k:Bool}{j}:JE G n sc N df m (.c (.bl k)) (.Constant (.bool k) j pos):=λX g=>PE.of Q6 (vg λ_ _=>rfl)
def MR{j}:JE G n sc N df m (.c .aU) (.Constant .none j pos):=λX g=>PE.of L8 (vg λ_ _=>rfl)
def MS{l:List Nat}{x:Str}{j}(hx:x=aQ l:=by decide +kernel)(hl:l.length<=sizeLine:=by decide):JE G n sc N df m (.c (.str l)) (.Constant (.str x) j pos):=
 λX g=>PE.of qQ (vg λ_ _=>by subst hx;exact⟨rfl,hl⟩)
def MT:JA G n sc N df m .nil []:=λX g=>PA.of g7 λs H Q q=>by
 obtain⟨r,fr,h,ds,h',sr,hr,e,q⟩:=q;simp only[Ev.bU]at e;cases e;exact q [] H r .nil hr .refl
def JU{es:Es}{xs:List Expr}(ha:JE G n sc N df m a xa)(hs:JA G n sc N df m es xs)(hst:∀env:Env,starEach (xa :: xs) env=(false,eval xa env) :: starEach xs env:=by intro _;rfl):JA G n sc N df m (.cons a es) (xa :: xs):=
 λX g=>PA.of (dQ (ha X g) (hs X g) (hst _)) λs H Q q=>by
  obtain⟨r,fr,h,ds,h',sr,hr,e,q⟩:=q;simp only[Ev.bU]at e;obtain⟨d,h1,e1,e⟩:=Ev.ah e;obtain⟨ds',h2,e2,e⟩:=Ev.ah e;cases e;refine⟨r,fr,h,d,h1,sr,hr,e1,λv H1 r1 v1 hr1 f1=>?_⟩;refine⟨r1,fr,h1,ds',_,sr.mono f1,hr1,e2,λvs H2 r2 v2 hr2 f2=>?_⟩;exact q _ H2 r2 (.cons (v1.mono f2) v2) hr2 (f1.trans f2)
def MU{es:Es}{xs:List Expr}{k}(hs:JA G n sc N df m es xs):JE G n sc N df m (.tup es) (.Tuple xs k pos):=λX g=>PE.of (Cm (hs X g)) λs H Q q=>by
 obtain⟨r,fr,h,d,h',sr,hr,e,q⟩:=q;simp only[Ev.ev]at e;obtain⟨ds,h1,e1,e⟩:=Ev.ah e;split at e
 .rename_i z;cases e;refine⟨r,fr,h,ds,_,sr,hr,e1,λvs H1 r1 v1 hr1 f1=>⟨by rw[v1.length,<-jG];exact z,λp hp=>?_⟩⟩;exact(q.later f1).tup v1 hr1 hp
 .cases e
def MV{es:Es}{xs:List Expr}(hs:JA G n sc N df m es xs):JE G n sc N df m (.lst es) (.List xs pos):=λX g=>PE.of (vK (hs X g)) λs H Q q=>by
 obtain⟨r,fr,h,d,h',sr,hr,e,q⟩:=q;simp only[Ev.ev]at e;obtain⟨ds,h1,e1,e⟩:=Ev.ah e;refine⟨r,fr,h,ds,h1,sr,hr,e1,λvs H1 r1 v1 hr1 f1=>?_⟩;exact(q.later f1).lst e v1 hr1
def qZ{K:PySem.W.Frag}{P:aL}{f:D->D->Hh->R D}{e':E}(he:∀fr h,Ev.ev P e' fr h=(Ev.ev P a fr h).bind λx h1=>(Ev.ev P b fr h1).bind λy h2=>f x y h2) :
  ∀s H Q,tJ K m P e' s H Q->Cj (jH K f) (tJ K m P a) (tJ K m P b) s H Q:=λs H Q q=>by
 obtain⟨r,fr,h,d,h',sr,hr,e,q⟩:=q;rw[he]at e;obtain⟨x,h1,e1,e⟩:=Ev.ah e;obtain⟨y,h2,e2,e⟩:=Ev.ah e;refine⟨r,fr,h,x,h1,sr,hr,e1,λv H1 r1 v1 hr1 f1=>?_⟩;refine⟨r1,fr,h1,y,h2,sr.mono f1,hr1,e2,λu H2 r2 v2 hr2 f2=>?_⟩;exact⟨r2,h2,x,y,d,h',hr2,v1.mono f2,v2,e,q.later (f1.trans f2)⟩
def nQ{o:bw}{op:Operator}(ho:∀X,Good G n sc N df X->ek X (binaryOp op) (jH X.K (Ev.bD o)))(ha:JE G n sc N df m a xa)(hb:JE G n sc N df m b xb):JE G n sc N df m (.bin o a b) (.BinOp xa op xb pos):=
 λX g=>PE.of (Hi (ho X g) (ha X g) (hb X g)) (qZ λfr h=>by simp only[Ev.ev])
noncomputable def jt(o:bq):D->D->Hh->R D:=λx y h=>R.of ((Ev.cop o x y h).map .bl) h
def vX{o:bq}{op:CmpOp}(ho:∀X,Good G n sc N df X->ek X (compareOp op) (jH X.K (jt o)))(ha:JE G n sc N df m a xa)(hb:JE G n sc N df m b xb)(hm:behindInMarks op xb=false):JE G n sc N df m (.cmp o a b) (.Compare xa [op] [xb] pos):=
 λX g=>PE.of (Jw (ho X g) (ha X g) (hb X g) hm) (qZ λfr h=>by simp only[Ev.ev,jt])
def oX{o:bq}{x y d:D}{h h':Hh}(e:jt o x y h=.ok d h'):∃k,Ev.cop o x y h=some k/\d=.bl k/\h'=h:=by
 unfold jt at e;obtain⟨e1,rfl⟩:=Ev.aM e;cases z:Ev.cop o x y h' with
 |none=>rw[z]at e1;cases e1
 |some k=>rw[z]at e1;cases e1;exact⟨k,rfl,rfl,rfl⟩
def q8{o:bq}{op:CmpOp}(ho:∀X,Good G n sc N df X->ek X (compareOp op) (jH X.K (jt o)))(ha:JE G n sc N df m a xa)(hb:JE G n sc N df m b xb)(hm:behindInMarks op xb=false):JT G n sc N df m (.cmp o a b) (.Compare xa [op] [xb] pos):=
 λX g=>PT.of (yT (ho X g) (ha X g) (hb X g) hm) λs H Q q=>by
  obtain⟨r,fr,h,k,h',sr,hr,e,q⟩:=q;simp only[Ev.aH]at e;obtain⟨d,h1,e1,e⟩:=Ev.ah e;have e0:=e1;simp only[Ev.ev]at e0;obtain⟨x,h2,_,e0⟩:=Ev.ah e0;obtain⟨y,h3,_,e0⟩:=Ev.ah e0;obtain⟨k',e2,e3,e4⟩:=oX (o:=o) (show jt o x y h3=_ from e0);subst e3;simp only[Ev.truthy]at e;cases e;refine qZ (e':=.cmp o a b) (f:=jt o) (λfr h=>by simp only[Ev.ev,jt]) s H _ ⟨r,fr,h,.bl k,_,sr,hr,e1,λv H1 r1 v1 hr1 f1=>?_⟩;exact⟨k,v1,q H1 r1 hr1 f1⟩
end
section
variable{G:Tb}{n:Nat}{sc:Scope}{N:List Str}{df:Bool}{m:List Nat}{a b c:E}{xa xb xc:Expr}{pos:Pos}
def MW(ha:JE G n sc N df m a xa):JE G n sc N df m (.neg a) (.UnaryOp .USub xa pos):=λX g=>PE.of (Rc Mu (ha X g)) λs H Q q=>by
 obtain⟨r,fr,h,d,h',sr,hr,e,q⟩:=q;simp only[Ev.ev]at e;obtain⟨x,h1,e1,e⟩:=Ev.ah e;split at e
 .cases e;exact⟨r,fr,h,_,_,sr,hr,e1,λv H1 r1 v1 hr1 f1=>⟨_,v1,(q.later f1).here rfl hr1⟩⟩
 .cases e
def MX{op}(ha:JE G n sc N df m a xa):JE G n sc N df m a (.BoolOp op [xa] pos):=λX g=>Mc (ha X g)
def Ry{rest:List Expr}(ha:JE G n sc N df m a xa)(hb:JE G n sc N df m b (.BoolOp .And (xb :: rest) pos)):JE G n sc N df m (.an a b) (.BoolOp .And (xa :: xb :: rest) pos):=λX g=>PE.of (Me (ha X g) (hb X g)) λs H Q q=>by
 obtain⟨r,fr,h,d,h',sr,hr,e,q⟩:=q;simp only[Ev.ev]at e;obtain⟨x,h1,e1,e⟩:=Ev.ah e;refine⟨r,fr,h,x,h1,sr,hr,e1,λv H1 r1 v1 hr1 f1=>?_⟩;split at e
 .exact⟨true,v1,r1,fr,h1,d,h',sr.mono f1,hr1,e,q.later f1⟩
 .cases e;exact⟨false,v1,(q.later f1).here rfl hr1⟩
 .cases e
def MY(ha:JT G n sc N df m a xa)(hb:JE G n sc N df m b xb)(hc:JE G n sc N df m c xc):JE G n sc N df m (.iX a b c) (.IfExp xa xb xc pos):=λX g=>PE.of (EM (ha X g) (hb X g) (hc X g)) λs H Q q=>by
 obtain⟨r,fr,h,d,h',sr,hr,e,q⟩:=q;simp only[Ev.ev]at e;obtain⟨k,h1,e1,e⟩:=Ev.ah e;refine⟨r,fr,h,k,h1,sr,hr,e1,λH1 r1 hr1 f1=>?_⟩;cases k with
 |true=>exact⟨r1,fr,h1,d,h',sr.mono f1,hr1,e,q.later f1⟩
 |false=>exact⟨r1,fr,h1,d,h',sr.mono f1,hr1,e,q.later f1⟩
def MZ(h:JW G n sc N df m a xa):JT G n sc N df m a xa:=λX g=>(h X g).pt
def M4(ha:JT G n sc N df m a xa):JW G n sc N df m a (.BoolOp .And [xa] pos):=λX g=>Jp (ha X g)
def JV(ha:JT G n sc N df m a xa):JW G n sc N df m a (.BoolOp .Or [xa] pos):=λX g=>Ca (ha X g)
def Ht{rest:List Expr}(ha:JT G n sc N df m a xa)(hb:JW G n sc N df m b (.BoolOp .And (xb :: rest) pos)):JW G n sc N df m (.an a b) (.BoolOp .And (xa :: xb :: rest) pos):=λX g=>PW.of (Mb (ha X g) (hb X g)) λs H Q q=>by
 obtain⟨r,fr,h,k,h',sr,hr,e,q⟩:=q;simp only[Ev.aH]at e;obtain⟨k1,h1,e1,e⟩:=Ev.ah e;refine⟨r,fr,h,k1,h1,sr,hr,e1,λH1 r1 hr1 f1=>?_⟩;cases k1 with
 |true=>exact⟨r1,fr,h1,k,h',sr.mono f1,hr1,e,λH2 r2 hr2 f2=>q H2 r2 hr2 (f1.trans f2)⟩
 |false=>
  have e':R.ok false h1=R.ok k h':=e;cases e';exact q H1 r1 hr1 f1
def CA{rest:List Expr}(ha:JT G n sc N df m a xa)(hb:JW G n sc N df m b (.BoolOp .Or (xb :: rest) pos)):JW G n sc N df m (.orr a b) (.BoolOp .Or (xa :: xb :: rest) pos):=λX g=>PW.of (G8 (ha X g) (hb X g)) λs H Q q=>by
 obtain⟨r,fr,h,k,h',sr,hr,e,q⟩:=q;simp only[Ev.aH]at e;obtain⟨k1,h1,e1,e⟩:=Ev.ah e;refine⟨r,fr,h,k1,h1,sr,hr,e1,λH1 r1 hr1 f1=>?_⟩;cases k1 with
 |false=>exact⟨r1,fr,h1,k,h',sr.mono f1,hr1,e,λH2 r2 hr2 f2=>q H2 r2 hr2 (f1.trans f2)⟩
 |true=>
  have e':R.ok true h1=R.ok k h':=e;cases e';exact q H1 r1 hr1 f1
def Rz(ha:JT G n sc N df m a xa):JT G n sc N df m (.nt a) (.UnaryOp .Not xa pos):=λX g=>PT.of (Cb (ha X g)) λs H Q q=>by
 obtain⟨r,fr,h,k,h',sr,hr,e,q⟩:=q;simp only[Ev.aH]at e;obtain⟨k1,h1,e1,e⟩:=Ev.ah e;cases e;exact⟨r,fr,h,k1,_,sr,hr,e1,λH1 r1 hr1 f1=>q H1 r1 hr1 f1⟩
def M5{K:PySem.W.Frag}{H:Hp}{r:List Addr}{h:Hh}{d:D}{v:V}{k:Bool}(hr:HR K H r h)(v1:RV K H r d v)(e:Ev.truthy h d=some k):EV K v H k:=by
 cases d with
 |aU=>simp only[RV]at v1;subst v1;cases e;rfl
 |bl x=>simp only[RV]at v1;subst v1;cases e;rfl
 |int x=>simp only[RV]at v1;subst v1;cases e;rfl
 |str x=>
  simp only[RV]at v1;obtain⟨rfl,z⟩:=v1;cases e;refine⟨by rw[cO];exact z,?_⟩;rw[cO];cases x with
  |nil=>rfl
  |cons c l=>simp;omega
 |tup ds=>
  simp only[RV]at v1;obtain⟨p,vs,rfl,z,q⟩:=v1;cases e;refine .inr (.inl ⟨vs,z,?_⟩);have hl:=q.length;cases ds<;>cases vs<;>simp_all
 |ref i=>
  simp only[RV]at v1;obtain⟨p,rfl,z⟩:=v1;by_cases hss:∃kvs,h[i]?=some (.dw kvs)
  .obtain⟨kvs,e1⟩:=hss;simp only[Ev.truthy,e1]at e;obtain⟨p',z1,z2,_⟩:=hr.dw e1;rw[z]at z1;cases z1;refine .inr (.inr ⟨_,z2,?_⟩);cases e;cases kvs<;>rfl
  have et:Ev.truthy h (.ref i)=(Ev.bx h i).map λds=>!ds.isEmpty:=by
   first
    |rfl
    | (simp only[Ev.truthy];split<;>first|rfl | (rename_i kvs z;first|exact(YO ⟨kvs,z⟩).elim|exact(hss ⟨kvs,z⟩).elim))
  rw[et]at e;simp only[gV]at e;obtain⟨ds,e1,rfl⟩:=e;obtain⟨p',vs,e2,q1,q2⟩:=hr.read e1;rw[z]at e2;cases e2;refine .inl ⟨vs,q1,?_⟩;have hl:=q2.length;cases ds<;>cases vs<;>simp_all
def M6(ha:JE G n sc N df m a xa)(he:∀(P:aL) fr h,Ev.aH P a fr h=(Ev.ev P a fr h).bind λx h1=>R.of (Ev.truthy h1 x) h1:=by intros;simp only[Ev.aH])
  (hx:∀(env:Env) whole,isTrue xa env whole=(do let v <-whole;standAt xa.pos;holding [v] (truthy v)):=by intro _ _;rfl):JT G n sc N df m a xa:=λX g=>PT.of (EW (ha X g) (hx _)) λs H Q q=>by
 obtain⟨r,fr,h,k,h',sr,hr,e,q⟩:=q;rw[he]at e;obtain⟨d,h1,e1,e⟩:=Ev.ah e;obtain⟨e,rfl⟩:=Ev.aM e;refine⟨r,fr,h,d,_,sr,hr,e1,λv H1 r1 v1 hr1 f1=>⟨k,M5 hr1 v1 e,q H1 r1 hr1 f1⟩⟩
noncomputable def M7:D->D->Hh->R D:=λx y h=>R.of (Ev.cY x y h) h
def RA(ho:∀X,Good G n sc N df X->yW X (jH X.K M7))(ha:JE G n sc N df m a xa)(hb:JE G n sc N df m b xb)(hs:oU xb:=by intro _ _;rfl):JE G n sc N df m (.ix a b) (.Subscript xa xb pos):=
 λX g=>PE.of (Hl (ho X g) (ha X g) (hb X g) hs) (qZ λfr h=>by simp only[Ev.ev,M7])
def RB:JO G n sc N df m .no none:=λX g=>PO.of Jz λs H Q q=>by
 obtain⟨r,fr,h,o,h',sr,hr,e,q⟩:=q;simp only[Ev.gc]at e;cases e;exact q H r hr .refl
def M8(ha:JE G n sc N df m a xa):JO G n sc N df m (.yes a) (some xa):=λX g=>PO.of (JB (ha X g)) λs H Q q=>by
 obtain⟨r,fr,h,o,h',sr,hr,e,q⟩:=q;simp only[Ev.gc]at e;obtain⟨d,h1,e1,e⟩:=Ev.ah e;obtain⟨e,rfl⟩:=Ev.aM e;cases d with
 |int i=>
  cases e;exact⟨r,fr,h,.int i,_,sr,hr,e1,λv H1 r1 v1 hr1 f1=>⟨i,v1,q H1 r1 hr1 f1⟩⟩
 |_=>cases e
def RC{lo hi:Eo}{xl xh:Option Expr}{p2}(ho:∀X,Good G n sc N df X->lT X (MP X.K))(ha:JE G n sc N df m a xa)(hl:JO G n sc N df m lo xl)(hu:JO G n sc N df m hi xh):JE G n sc N df m (.sl a lo hi) (.Subscript xa (.Slice xl xh none p2) pos):=
 λX g=>PE.of (EY (ho X g) (ha X g) (hl X g) (hu X g)) λs H Q q=>by
  obtain⟨r,fr,h,d,h',sr,hr,e,q⟩:=q;simp only[Ev.ev]at e;obtain⟨x,h1,e1,e⟩:=Ev.ah e;obtain⟨l,h2,e2,e⟩:=Ev.ah e;obtain⟨u,h3,e3,e⟩:=Ev.ah e;refine⟨r,fr,h,x,h1,sr,hr,e1,λv H1 r1 v1 hr1 f1=>?_⟩;refine⟨r1,fr,h1,l,h2,sr.mono f1,hr1,e2,λH2 r2 hr2 f2=>?_⟩;refine⟨r2,fr,h2,u,h3,(sr.mono f1).mono f2,hr2,e3,λH3 r3 kW f3=>?_⟩;exact⟨r3,h3,x,d,h',kW,(v1.mono f2).mono f3,e,q.later ((f1.trans f2).trans f3)⟩
def za{K:PySem.W.Frag}{P:aL}{es:Es}{f:List D->Hh->R D}{e':E}(he:∀fr h,Ev.ev P e' fr h=(Ev.bU P es fr h).bind f) :
  ∀s H Q,tJ K m P e' s H Q->Mz (uF K f) (MO K m P es) s H Q:=λs H Q q=>by
 obtain⟨r,fr,h,d,h',sr,hr,e,q⟩:=q;rw[he]at e;obtain⟨ds,h1,e1,e⟩:=Ev.ah e;exact⟨r,fr,h,ds,h1,sr,hr,e1,λvs H1 r1 v1 hr1 f1=>⟨r1,h1,ds,d,h',hr1,v1,e,q.later f1⟩⟩
def AU{k:BI}{es:Es}{x:Str}{id:String}{e0:Expr}{xs:List Expr}{p:Pos}(hc:∀X,Good G n sc N df X->fy X (.builtin id) (uF X.K (Ev.dz k)))(hs:JA G n sc N df m es (e0 :: xs))(hb:x∈G.bl:=by decide +kernel)
  (hg:sc.names.lookup x=some .globalImplicit:=by rfl) (hv:bootBuiltins x=some (.builtin id)) (hn:x≠"__name__" :=by decide) (hd:(x==("__debug__" : Str))=false:=by decide)
  (hst:∀env:Env,starEach (e0 :: xs) env=(false,eval e0 env) :: starEach xs env:=by intro _;rfl) (hpl:∀env:Env,(backTo pos (starEach xs env)).any (·.1)=false:=by intro _;rfl) :
  JE G n sc N df m (.bi k es) (.Call (.Name x p) (e0 :: xs) [] pos):=
 λX g=>PE.of (vM (hc X g) (g.gl hg) (g.bl x hb) hv (hs X g) hn hd (hst _) (hpl _)) (za λfr h=>by simp only[Ev.ev])
def RD{k:BI}{es:Es}{x:Str}{id:String}{e0:Expr}{xs:List Expr}{p:Pos}(hc:∀X,Good G n sc N df X->fy X (.type id) (uF X.K (Ev.dz k)))(hs:JA G n sc N df m es (e0 :: xs))(hb:x∈G.bl:=by decide +kernel)
  (hg:sc.names.lookup x=some .globalImplicit:=by rfl) (hv:bootBuiltins x=some (.type id)) (hn:x≠"__name__" :=by decide) (hd:(x==("__debug__" : Str))=false:=by decide)
  (hst:∀env:Env,starEach (e0 :: xs) env=(false,eval e0 env) :: starEach xs env:=by intro _;rfl) (hpl:∀env:Env,(backTo pos (starEach xs env)).any (·.1)=false:=by intro _;rfl) :
  JE G n sc N df m (.bi k es) (.Call (.Name x p) (e0 :: xs) [] pos):=
 λX g=>PE.of (nH (hc X g) (g.gl hg) (g.bl x hb) hv (hs X g) hn hd (hst _) (hpl _)) (za λfr h=>by simp only[Ev.ev])
def RE{f:Nat}{i:FI}{es:Es}{e0:Expr}{xs:List Expr}{p:Pos}(hf:G.fi[f]?=some i)(hs:JA G n sc N df m es (e0 :: xs))
  (hg:sc.names.lookup i.name=some .globalImplicit:=by rfl) (hd:(i.name==("__debug__" : Str))=false:=by decide)
  (hst:∀env:Env,starEach (e0 :: xs) env=(false,eval e0 env) :: starEach xs env:=by intro _;rfl) (hpl:∀env:Env,(backTo pos (starEach xs env)).any (·.1)=false:=by intro _;rfl) :
  JE G n sc N df m (.cl f es) (.Call (.Name i.name p) (e0 :: xs) [] pos):=λX g=>by
 obtain⟨h1,h2,h3,h4⟩:=g.fn f i hf;refine PE.of (sN h4 g.room (g.gl hg) h1 h2 h3 .nil Rp (hs X g) hd (hst _) (hpl _)) λs H Q q=>?_;obtain⟨r,fr,h,d,h',sr,hr,e,q⟩:=q;simp only[Ev.ev]at e;obtain⟨ds,h5,e1,e⟩:=Ev.ah e;refine⟨r,fr,h,ds,h5,sr,hr,e1,λvs H1 r1 v1 hr1 f1=>?_⟩;exact⟨r1,h5,ds,d,h',by rw[aae];exact v1,hr1,e,q.later f1⟩
noncomputable def Fc:ME->String
 |.join=>"str"
 |_=>"list"
def CB{K:PySem.W.Frag}{H:Hp}{r:List Addr}{h:Hh}{k:ME}{d:D}{v:V}{ty:String}(hr:HR K H r h)(v1:RV K H r d v)(e:Ev.qX k d h=true)(ht:ty=Fc k):Cp K ty v H:=by
 subst ht;have lst:∀i,d=.ref i->(Ev.bx h i).isSome=true->Cp K "list" v H:=λi ed es=>by
  subst ed;obtain⟨ds,e1⟩:=Option.isSome_iff_exists.mp es;obtain⟨p,vs,e2,q1,q2⟩:=hr.read e1;simp only[RV]at v1;obtain⟨p',rfl,e3⟩:=v1;rw[e2]at e3;cases e3;exact .inl ⟨rfl,vs,q1⟩
 cases k with
 |join=>
  cases d with
  |str l=>simp only[RV]at v1;obtain⟨rfl,_⟩:=v1;rfl
  |_=>cases e
 |append=>cases d with|ref i=>exact lst i rfl e|_=>cases e
 |extend=>cases d with|ref i=>exact lst i rfl e|_=>cases e
 |pop=>cases d with|ref i=>exact lst i rfl e|_=>cases e
 |kq=>cases d with|ref i=>exact lst i rfl e|_=>cases e
def AV {k:ME}{es:Es}{e0:Expr}{xs:List Expr}{name:Str}{apos:Pos}{ty id:String}(pa:PlainAttrs ty) (slot:Slot ty name id) (hty:typeOf (.builtin id)=pure (.type "method_descriptor"))
  (hm:∀X,Good G n sc N df X->uA X id (vW X.K (Ev.fq k))) (ht:ty=Fc k) (ha:JE G n sc N df m a xa) (hs:JA G n sc N df m es (e0 :: xs))
  (hbase:∀env:Env,attributeBase xa name env (eval xa env)=eval xa env:=by intro _;rfl)
  (hfew:∀env:Env,((backTo pos (starEach (e0 :: xs) env)).all (λx=>!x.1)&&(backToKw pos (keywordEach [] env)).all (λx=>x.1.isSome)
   &&decide ((e0 :: xs).length+([]:List Keyword).length+(if ([]:List Keyword).isEmpty then 0 else 1)<30))=true:=by intro _;rfl)
  (hline:(apos.endLine==pos.line)=true:=by rfl) (hst:∀env:Env,starEach (e0 :: xs) env=(false,eval e0 env) :: starEach xs env:=by intro _;rfl) (hpl:∀env:Env,(backTo pos (starEach xs env)).any (·.1)=false:=by intro _;rfl) :
  JE G n sc N df m (.me k a es) (.Call (.Attribute xa name apos) (e0 :: xs) [] pos):=λX g=>
 PE.of (Ro pa slot hty (hm X g) (ha X g) (hs X g) (hbase _) (hfew _) hline (hst _) (hpl _)) λs H Q q=>by
  obtain⟨r,fr,h,d,h',sr,hr,e,q⟩:=q;simp only[Ev.ev]at e;obtain⟨x,h1,e1,e⟩:=Ev.ah e;split at e
  .rename_i hk;obtain⟨ds,h2,e2,e⟩:=Ev.ah e;refine⟨r,fr,h,x,h1,sr,hr,e1,λv H1 r1 v1 hr1 f1=>⟨CB hr1 v1 hk ht,?_⟩⟩;refine⟨r1,fr,h1,ds,h2,sr.mono f1,hr1,e2,λvs H2 r2 v2 hr2 f2=>?_⟩;exact⟨r2,h2,x,ds,d,h',hr2,v1.mono f2,v2,e,q.later (f1.trans f2)⟩
  .cases e
def M9 {k:ME}{name:Str}{apos:Pos}{ty id:String}(pa:PlainAttrs ty) (slot:Slot ty name id) (hty:typeOf (.builtin id)=pure (.type "method_descriptor"))
  (hm:∀X,Good G n sc N df X->uA X id (vW X.K (Ev.fq k))) (ht:ty=Fc k) (ha:JE G n sc N df m a xa)
  (hbase:∀env:Env,attributeBase xa name env (eval xa env)=eval xa env:=by intro _;rfl) (hline:(apos.endLine==pos.line)=true:=by rfl) :
  JE G n sc N df m (.me k a .nil) (.Call (.Attribute xa name apos) [] [] pos):=λX g=>
 PE.of (MG pa slot hty (hm X g) (ha X g) (hbase _) hline) λs H Q q=>by
  obtain⟨r,fr,h,d,h',sr,hr,e,q⟩:=q;simp only[Ev.ev]at e;obtain⟨x,h1,e1,e⟩:=Ev.ah e;split at e
  .rename_i hk;simp only[Ev.bU,Ev.ak]at e;refine⟨r,fr,h,x,h1,sr,hr,e1,λv H1 r1 v1 hr1 f1=>⟨CB hr1 v1 hk ht,?_⟩⟩;exact⟨r1,h1,x,[],d,h',hr1,v1,.nil,e,q.later f1⟩
  .cases e
end
end Sm
namespace Sm
open PySem PySem.Spec PyProof.Rows L2
open Ev (D O Hh Fr R aL E Es Eo T S Ss Fl Src bw bq TY BI ME)
noncomputable def qj(K:PySem.W.Frag)(r0:List Addr)(H0:Hp)(s:Src)(J:L2.It):Prop:=∀(i:Nat) H1 r1 h1,HR K H1 r1 h1->Fm K r0 r1 H0 H1->Ev.stays h1 s.2=true->
 (∀d,s.1[i]?=some d->J.go i H1/\∀x H2,J.Hf i H1 x H2->∃r2,RV K H2 r2 d x/\HR K H2 r2 h1/\Fm K r1 r2 H1 H2)/\(s.1.length<=i->J.stop i H1)
inductive Ud(K:PySem.W.Frag)(m:List Nat)(P:aL)(it:Ev.It)(s:L2.St)(H:Hp)(Rr:L2.It->Hp->Prop):Prop
 |mk (r:List Addr) (fr:Fr) (h:Hh) (src:Src) (h':Hh) (c0:SR K m H r fr s) (c1:HR K H r h) (c2:Ev.cy P it fr h=.ok src h') (c3:∀J H' r',HR K H' r' h'->Fm K r r' H H'->qj K r' H' src J->Rr J H'):Ud K m P it s H Rr
noncomputable def JI(G:Tb)(n:Nat)(sc:Scope)(N:List Str)(df:Bool)(m:List Nat)(it:Ev.It)(tg x:Expr):Prop:=∀X,Good G n sc N df X->PI X tg x (Ud X.K m (Ev.run G.F G.w n) it)
noncomputable def Hu(z:Str):L2.It:=⟨λi _=>i<z.length,λi H x H'=>H'=H/\∃c,z.cps[i]?=some c/\x=.str ⟨#[c]⟩,λi _=>z.length<=i⟩
def Na{M:Model}{A:Around}{E:Value->Shared->Prop}{s:Shared}{tg:Expr}{it:Value}{x:Str}{t:Tok}{Q:Unit->Shared->Prop}(hQ:Q () s):wpAny M A (letOwnedTupleGo tg it (.str x t)) Q E s:=by
 unfold letOwnedTupleGo;cases tg<;>first
  |exact uZ hQ
  | (cases it<;>exact uZ hQ)
def vY {P:Program}{w:World}{K:PySem.W.Frag}{tg:Expr}(z:Str) (t:Tok) (it:Addr) (ty:String) (hty:ty = "str_ascii_iterator" \/ty = "str_iterator") :
  Turn P w K tg (Hu z) [it] it (λi h=>h.IsStrIter it ty z t i) where
 mem:=by simp
 obj:=λi h st b hb=>by
  have e:b=it:=by simpa using hb
  subst e;obtain⟨o,e,c,d⟩:=st;exact⟨o,e,λv z=>by rw[d]at z;cases z⟩
 keep:=λi h h' st k=>by
  obtain⟨o,e,c,d⟩:=st;exact⟨o,k it (by simp) o e,c,d⟩
 item:=by
  intro X hP hw hK hc i pins s σ H E I hf st hg;subst hP hw hK;obtain⟨f0,f1,f2,f3,f4,f5⟩:=hf it (by simp);have W:Walks X.prog X.w X.A it [it] [it] z.cps.size (SignAt z) (λi h=>h.IsStrIter it ty z t i):=by
   rcases hty with e|e
   .subst e;exact Walks.strAscii (I.ok.hd hc) it z t
   .subst e;exact Walks.strWide (I.ok.hd hc) it z t
  refine W.item i s _ _ hg st λv h' tk hv st' kk=>?_;obtain⟨c,u,hc',rfl⟩:=hv;have I1:Inv X pins σ H { s with heap:=h',toks:=tk }:=I.turned (λb o hb e=>kk b o (by simpa using hb) e) f0 f1 f3 f4 f5;exact⟨_,rfl,Na ⟨.str ⟨#[c]⟩,H,I1,⟨u,rfl⟩,⟨rfl,c,hc',rfl⟩,st',λb hb=>(hf b hb).1⟩⟩
 done:=by
  intro X hP hw hK hc i pins s σ H E I hf st hg;subst hP hw hK;obtain⟨f0,f1,f2,f3,f4,f5⟩:=hf it (by simp);rcases hty with e|e
  .subst e;exact wpAny_pyNext_ascii_end (I.ok.hd hc) st (by simpa[Str.length,Hu]using hg) λh' eb=>⟨rfl,I.turned (t':=s.toks) (λb o hb e=>eb b o hb e) f0 f1 f3 f4 f5⟩
  .subst e;exact wpAny_pyNext_wide_end (I.ok.hd hc) st (by simpa[Str.length,Hu]using hg) λh' eb=>⟨rfl,I.turned (t':=s.toks) (λb o hb e=>eb b o hb e) f0 f1 f3 f4 f5⟩
 self:=λ_ _ _ _ _ st h=>by
  rcases hty with e|e
  .subst e;exact wpAny_pyIter_striter_ascii st h
  .subst e;exact wpAny_pyIter_striter_wide st h
noncomputable def Hv(K:PySem.W.Frag)(x:V)(H:Hp)(Rr:L2.It->Hp->Prop):Prop:=
 (∃a xs,x=.ref a/\eL K H a xs/\Rr (T7 K a) H)\/(∃a xs,x=.ref a/\dJ K H a xs/\Rr (T8 K a) H)\/∃z,x=.str z/\Rr (Hu z) H
def Nb{X:Cx}{tg l:Expr}{tl:TE}{wi:TI}(hl:PE X l tl)(hw:∀s H Rr,wi s H Rr->tl s H λx H1=>Hv X.K x H1 Rr):PI X tg l wi:=by
 intro pins s σ H Rr I h;refine bC (hl pins s σ H _ I (hw _ _ _ h)) λv s1 ⟨x,H1,I1,r1,q1⟩=>?_;have fp:∀(o:Obj) b,b∈[s1.heap.objs.size]->gX X pins H1 b:=λo b hb=>by
  have e:b=s1.heap.objs.size:=by simpa using hb
  subst e;exact I1.Aw (Ad _) (I1.hok.fresh (Ad _))
 rcases q1 with ⟨a,xs,rfl,hq,q⟩|⟨a,xs,rfl,hq,q⟩|⟨z,rfl,q⟩
 .cases r1;obtain⟨its,rv,p,hz⟩:=I1.list hq;refine wpAny_pyIter_list p.isList ?_;exact⟨s1.heap.objs.size,[s1.heap.objs.size],_,_,H1,rfl,I1.kept (t':=s1.toks) λb o e=>vz _ e,Cf a _,⟨_,aac _ rfl,rfl,rfl⟩,fp default,q⟩
 .cases r1;obtain⟨its,rv,p,hz⟩:=I1.tuple hq;refine wpAny_pyIter_tuple (show s1.heap.IsTuple a its.toArray from p) ?_;exact⟨s1.heap.objs.size,[s1.heap.objs.size],_,_,H1,rfl,I1.kept (t':=s1.toks) λb o e=>vz _ e,Ay a _,⟨_,aac _ rfl,rfl,rfl⟩,fp default,q⟩
 .obtain⟨t,rfl⟩:=r1;cases ha:z.cps.all (· < 128)
  .refine wpAny_pyIter_wide ha ?_;exact⟨s1.heap.objs.size,[s1.heap.objs.size],_,_,H1,rfl,I1.kept (t':=s1.toks) λb o e=>vz _ e,vY z t _ _ (.inr rfl),⟨_,aac _ rfl,rfl,rfl⟩,fp default,q⟩
  .refine wpAny_pyIter_ascii ha ?_;exact⟨s1.heap.objs.size,[s1.heap.objs.size],_,_,H1,rfl,I1.kept (t':=s1.toks) λb o e=>vz _ e,vY z t _ _ (.inl rfl),⟨_,aac _ rfl,rfl,rfl⟩,fp default,q⟩
def uG{h:Hh}{n:Nat}{ds:List D}(e:Ev.stays h [(n,ds)]=true):Ev.bx h n=some ds:=by
 simp only[Ev.stays,Bool.and_true]at e;split at e
 .rename_i es q;rw[q,(Ev.uE _ _).mp e]
 .cases e
def JX{K:PySem.W.Frag}{H:Hp}{r:List Addr}{h:Hh}{d:D}{v:V}{src:Src}{Rr:L2.It->Hp->Prop}(hr:HR K H r h)(v1:RV K H r d v)(e:Ev.fN h d=some src)(q:∀J,qj K r H src J->Rr J H):Hv K v H Rr:=by
 cases d with
 |tup ds=>
  simp only[RV]at v1;obtain⟨a,vs,rfl,z,w⟩:=v1;cases e;refine .inr (.inl ⟨a,vs,rfl,z,q _ λi H1 r1 h1 hr1 f1 st=>⟨λd' e'=>?_,λhl=>?_⟩⟩)
  .obtain⟨u,e1,e2⟩:=w.get e';refine⟨⟨vs,u,f1.tups _ _ z,e1⟩,λx H2 y=>?_⟩;obtain⟨rfl,y⟩:=y;have:=y vs (f1.tups _ _ z);rw[e1]at this;cases this;exact⟨r1,e2.mono f1,hr1,.refl⟩
  .exact⟨vs,f1.tups _ _ z,by rw[w.length];exact hl⟩
 |str l=>
  simp only[RV]at v1;obtain⟨rfl,z⟩:=v1;cases e;refine .inr (.inr ⟨_,rfl,q _ λi H1 r1 h1 hr1 f1 st=>⟨λd' e'=>?_,λhl=>?_⟩⟩)
  .rw[aaj]at e';cases e2:l[i]? with
   |none=>rw[e2]at e';cases e'
   |some c=>
    rw[e2]at e';cases e';refine⟨by show i<(aQ l).length;rw[cO];exact(List.getElem?_eq_some_iff.mp e2).1,λx H2 y=>?_⟩;obtain⟨rfl,c',y1,rfl⟩:=y;have e3:(aQ l).cps[i]?=some c:=by simp[aQ,e2]
    rw[e3]at y1;cases y1;exact⟨r1,⟨rfl,by show 1<=sizeLine;decide⟩,hr1,.refl⟩
  .show(aQ l).length<=i;rw[cO];simpa using hl
 |ref k=>
  simp only[RV]at v1;obtain⟨a,rfl,z⟩:=v1;simp only[Ev.fN,gV]at e;obtain⟨ds,e1,rfl⟩:=e;obtain⟨a',vs,e2,e3,e4⟩:=hr.read e1;rw[z]at e2;cases e2;refine .inl ⟨a,vs,rfl,e3,q _ λi H1 r1 h1 hr1 f1 st=>?_⟩;obtain⟨a',us,e5,e6,e7⟩:=hr1.read (uG st);rw[f1.pre _ _ z]at e5;cases e5;refine⟨λd' e'=>?_,λhl=>⟨us,e6,by rw[e7.length];exact hl⟩⟩;obtain⟨u,g1,g2⟩:=e7.get e';refine⟨⟨us,u,e6,g1⟩,λx H2 y=>?_⟩;obtain⟨rfl,y⟩:=y;have:=y us e6;rw[g1]at this;cases this;exact⟨r1,g2,hr1,.refl⟩
 |_=>cases e
section
variable{G:Tb}{n:Nat}{sc:Scope}{N:List Str}{df:Bool}{m:List Nat}{a b:E}{xa tg:Expr}{pos:Pos}
def Nc(ha:JE G n sc N df m a xa):JI G n sc N df m (.seq a) tg xa:=λX g=>Nb (ha X g) λs H Rr q=>by
 obtain⟨r,fr,h,src,h',sr,hr,e,q⟩:=q;simp only[Ev.cy]at e;obtain⟨d,h1,e1,e⟩:=Ev.ah e;obtain⟨e,rfl⟩:=Ev.aM e;refine⟨r,fr,h,d,_,sr,hr,e1,λv H1 r1 v1 hr1 f1=>?_⟩;exact JX hr1 v1 e λJ hJ=>q J H1 r1 hr1 f1 hJ
def PI.of{X:Cx}{tg l:Expr}{t t':TI}(h:PI X tg l t)(w:∀s H Q,t' s H Q->t s H Q):PI X tg l t':=λpins s σ H Q I q=>h pins s σ H Q I (w _ _ _ q)
def Nd{K:PySem.W.Frag}{r:List Addr}{H:Hp}(lo:Int)(k:Nat):qj K r H (Ev.range lo k,[]) (Hg lo k):=λi H1 r1 h1 hr1 f1 st=>by
 refine⟨λd e=>?_,λhl=>?_⟩
 .simp only[Ev.range,aaj]at e;cases e2:(List.range k)[i]? with
  |none=>rw[e2]at e;cases e
  |some j=>
   rw[e2]at e;cases e;have hi:i<k:=by simpa using (List.getElem?_eq_some_iff.mp e2).1
   have hj:j=i:=by
    rw[ab5 hi]at e2;exact(PV e2).symm
   subst hj;refine⟨hi,λx H2 y=>?_⟩;obtain⟨rfl,rfl⟩:=y;exact⟨r1,rfl,hr1,.refl⟩
 .have:(Ev.range lo k).length=k:=by simp[Ev.range]
  show k<=i;have hl':(Ev.range lo k).length<=i:=hl;omega
def JY {e1:E}{p:Pos}(hs:JA G n sc N df m (.cons e1 .nil) [xa]) (hg:sc.names.lookup ("range" : Str)=some .globalImplicit:=by rfl) (hb:("range" : Str)∈G.bl:=by decide +kernel)
  (hst:∀env:Env,starEach [xa] env=[(false,eval xa env)]:=by intro _;rfl):JI G n sc N df m (.iU (.cons e1 .nil)) tg (.Call (.Name "range" p) [xa] [] pos):=λX g=>
 PI.of (Cg (g.gl hg) (g.bl _ hb) (hs X g) (hst _)) λs H Rr q=>by
  obtain⟨r,fr,h,src,h',sr,hr,e,q⟩:=q;simp only[Ev.cy]at e;obtain⟨ds,h1,e1,e⟩:=Ev.ah e;obtain⟨e,rfl⟩:=Ev.aM e;refine⟨r,fr,h,ds,_,sr,hr,e1,λvs H1 r1 v1 hr1 f1=>?_⟩;unfold Ev.fO at e;split at e
  .rename_i j;split at e
   .rename_i hj;cases e;simp only[aJ,RV]at v1;obtain⟨v,w,rfl,rfl,rfl⟩:=v1;exact⟨_,rfl,hj.1,hj.2,q _ H1 r1 hr1 f1 (Nd 0 _)⟩
   .cases e
  .exfalso;simp only[Ev.bU]at e1;obtain⟨d,_,_,e1⟩:=Ev.ah e1;simp only[Ev.ak]at e1;cases e1
  .cases e
inductive gJ(K:PySem.W.Frag)(m:List Nat)(t:T)(v:V)(s:L2.St)(H:Hp)(Q:L2.St->Hp->Prop):Prop
 |mk (r:List Addr) (fr:Fr) (h:Hh) (d:D) (aj:Fr) (c0:SR K m H r fr s) (c1:HR K H r h) (c2:RV K H r d v) (c3:Ev.bJ t d fr=some aj) (c4:∀s',SR K m H r aj s'->Q s' H):gJ K m t v s H Q
noncomputable def JG(G:Tb)(n:Nat)(sc:Scope)(N:List Str)(df:Bool)(m:List Nat)(t:T)(x:Expr):Prop:=∀X,Good G n sc N df X->PG X x (gJ X.K m t)
def PG.of{X:Cx}{e:Expr}{t t':TG}(h:PG X e t)(w:∀v s H Q,t' v s H Q->t v s H Q):PG X e t':=λpins s σ H v u Q I r q=>h pins s σ H v u Q I r (w _ _ _ _ q)
theorem SR.set{K:PySem.W.Frag}{m:List Nat}{H:Hp}{r:List Addr}{fr:Fr}{s:L2.St}(sr:SR K m H r fr s)(hm:m.Nodup){j i:Nat}(hj:m[j]?=some i){d:D}{v:V}(v1:RV K H r d v):SR K m H r (fr.set i (some d)) (s.set j (some v)):=by
 refine⟨by simp[sr.len],λj' i' d' e1 e2=>?_⟩;by_cases hi:i'=i
 .subst hi;have:j'=j:=CC hm e1 hj;subst this;have hlt:i'<fr.length:=by
   have:=(List.getElem?_eq_some_iff.mp e2).1;simpa using this
  rw[WS hlt]at e2;cases e2;refine⟨v,WS ?_,v1⟩;rw[sr.len];exact(List.getElem?_eq_some_iff.mp hj).1
 .rw[UJ (λz=>hi z.symm)]at e2;obtain⟨u,q1,q2⟩:=sr.sl j' i' d' e1 e2;refine⟨u,?_,q2⟩;rw[UJ]
  .exact q1
  .intro z;subst z;rw[hj]at e1;cases e1;exact hi rfl
where
 CC {l:List Nat} (hl:l.Nodup) {i j:Nat} {x:Nat} (a:l[i]?=some x) (b:l[j]?=some x):i=j:=by
  have ha:=(List.getElem?_eq_some_iff.mp a)
  have hb:=(List.getElem?_eq_some_iff.mp b)
  obtain⟨h1,e1⟩:=ha;obtain⟨h2,e2⟩:=hb;exact(List.getElem_inj hl).mp (e1.trans e2.symm)
def Good.loc{X:Cx}(g:Good G n sc N df X){x:Str}(h:sc.names.lookup x=some .local\/(df=true/\sc.names.lookup x=some .cell)):Loc X.env.scope x/\(X.fn x=true\/X.env.scope.names.lookup x=some .local):=by
 rw[show Loc X.env.scope x↔Loc sc x by rw[g.sc],g.sc];rcases h with h|⟨h1,h⟩
 .exact⟨.inl h,.inr h⟩
 .exact⟨.inr h,.inl (g.own h1 x)⟩
def Nf(j i:Nat){x:Str}(hm:m.Nodup)(hN:N.Nodup)(hj:m[j]?=some i:=by rfl)(CD:N[j]?=some x:=by rfl)
  (hl:sc.names.lookup x=some .local\/(df=true/\sc.names.lookup x=some .cell):=by first|exact Or.inl rfl|exact Or.inr ⟨rfl,rfl⟩):JG G n sc N df m (.one i) (.Name x pos):=λX g=>by
 obtain⟨h1,h2⟩:=g.loc hl;refine PG.of (yR (i:=j) (by rw[g.nm];exact hN) (by rw[g.nm];exact CD) h1 h2) λv s H Q q=>?_;obtain⟨r,fr,h,d,aj,sr,hr,v1,e,q⟩:=q;cases e;exact q _ (sr.set hm hj v1)
inductive Ue(K:PySem.W.Frag)(m:List Nat)(l:List Nat)(vs:List V)(s:L2.St)(H:Hp)(Q:L2.St->Hp->Prop):Prop
 |mk (r:List Addr) (fr:Fr) (h:Hh) (ds:List D) (aj:Fr) (c0:SR K m H r fr s) (c1:HR K H r h) (c2:aJ K H r ds vs) (c3:Ev.cH l ds fr=some aj) (c4:∀s',SR K m H r aj s'->Q s' H):Ue K m l vs s H Q
noncomputable def uH(G:Tb)(n:Nat)(sc:Scope)(N:List Str)(df:Bool)(m:List Nat)(l:List Nat)(xs:List Expr):Prop:=∀X,Good G n sc N df X->pS X xs (Ue X.K m l)
def pS.of{X:Cx}{e:List Expr}{t t':ur}(h:pS X e t)(w:∀v s H Q,t' v s H Q->t v s H Q):pS X e t':=λpins s σ H v u Q I r q=>h pins s σ H v u Q I r (w _ _ _ _ q)
def JZ:uH G n sc N df m [] []:=λX g=>pS.of Jr λvs s H Q q=>by
 obtain⟨r,fr,h,ds,aj,sr,hr,v1,e,q⟩:=q;cases ds with
 |nil=>simp only[aJ]at v1;subst v1;cases e;exact⟨rfl,q _ sr⟩
 |cons _ _=>cases e
def Fd(j i:Nat){x:Str}{l:List Nat}{xs:List Expr}(hm:m.Nodup)(hN:N.Nodup)(hs:uH G n sc N df m l xs)(hj:m[j]?=some i:=by rfl)(CD:N[j]?=some x:=by rfl)
  (hl:sc.names.lookup x=some .local\/(df=true/\sc.names.lookup x=some .cell):=by first|exact Or.inl rfl|exact Or.inr ⟨rfl,rfl⟩)
  (hst:∀env:Env,(assignEach (.Name x pos :: xs) env).map (·.2)=assign (.Name x pos) env :: (assignEach xs env).map (·.2):=by intro _;rfl):uH G n sc N df m (i :: l) (.Name x pos :: xs):=λX g=>by
 obtain⟨h1,h2⟩:=g.loc hl;refine pS.of (ER (yR (i:=j) (by rw[g.nm];exact hN) (by rw[g.nm];exact CD) h1 h2) (hs X g) (hst _)) λvs s H Q q=>?_;obtain⟨r,fr,h,ds,aj,sr,hr,v1,e,q⟩:=q;cases ds with
 |nil=>cases e
 |cons d ds=>
  simp only[aJ]at v1;obtain⟨v,w,rfl,v2,v3⟩:=v1;exact⟨v,w,rfl,r,_,h,ds,aj,sr.set hm hj v2,hr,v3,e,q⟩
def J0{l:List Nat}{xs:List Expr}{k:Nat}(hs:uH G n sc N df m l xs)(hn:∀env:Env,(assignEach xs env).length=l.length:=by intro _;rfl)(hst:∀env:Env,(assignEach xs env).findIdx? (·.1)=none:=by intro _;rfl) :
  JG G n sc N df m (.many l) (.Tuple xs k pos):=λX g=>PG.of (Mg (n:=l.length) g.calm (hs X g) (hn _) (hst _)) λv s H Q q=>by
 obtain⟨r,fr,h,d,aj,sr,hr,v1,e,q⟩:=q;cases d with
 |tup ds=>
  simp only[RV]at v1;obtain⟨p,vs,rfl,z,w⟩:=v1;have hlen:∀(l:List Nat) (ds:List D) fr aj,Ev.cH l ds fr=some aj->ds.length=l.length:=by
   intro l;induction l with
   |nil=>intro ds fr aj e;cases ds with|nil=>rfl|cons _ _=>cases e
   |cons i l ih=>intro ds fr aj e;cases ds with|nil=>cases e|cons d ds=>simp[ih ds _ _ e]
  exact⟨p,vs,rfl,z,by rw[w.length];exact hlen _ _ _ _ e,r,fr,h,ds,aj,sr,hr,w,e,q⟩
 |_=>cases e
end
noncomputable def Fin(K:PySem.W.Frag)(m:List Nat)(r:List Addr)(H:Hp)(h':Hh)(fl:Fl)(aj:Fr)(Q:Ends):Prop:=match fl with
 |.nx=>∀s' H' r',SR K m H' r' aj s'->HR K H' r' h'->Fm K r r' H H'->Q.nx s' H'
 |.bk=>∀s' H' r',SR K m H' r' aj s'->HR K H' r' h'->Fm K r r' H H'->Q.bk s' H'
 |.ct=>∀s' H' r',SR K m H' r' aj s'->HR K H' r' h'->Fm K r r' H H'->Q.ct s' H'
 |.ret d=>Res K r H h' d Q.rt
theorem Fin.later{K:PySem.W.Frag}{m:List Nat}{r r':List Addr}{H H':Hp}{h':Hh}{fl:Fl}{aj:Fr}{Q:Ends}(q:Fin K m r H h' fl aj Q)(f:Fm K r r' H H'):Fin K m r' H' h' fl aj Q:=by
 cases fl with
 |nx=>exact λs2 H2 r2 a b g=>q s2 H2 r2 a b (f.trans g)
 |bk=>exact λs2 H2 r2 a b g=>q s2 H2 r2 a b (f.trans g)
 |ct=>exact λs2 H2 r2 a b g=>q s2 H2 r2 a b (f.trans g)
 |ret d=>exact Res.later q f
inductive Ug(K:PySem.W.Frag)(m:List Nat)(P:aL)(w:Nat)(st:S)(Q:Ends)(s:L2.St)(H:Hp):Prop
 |mk (r:List Addr) (fr:Fr) (h:Hh) (fl:Fl) (aj:Fr) (h':Hh) (c0:SR K m H r fr s) (c1:HR K H r h) (c2:Ev.ex P w st fr h=.ok (fl,aj) h') (c3:Fin K m r H h' fl aj Q):Ug K m P w st Q s H
inductive mS(K:PySem.W.Frag)(m:List Nat)(P:aL)(w:Nat)(ss:Ss)(Q:Ends)(s:L2.St)(H:Hp):Prop
 |mk (r:List Addr) (fr:Fr) (h:Hh) (fl:Fl) (aj:Fr) (h':Hh) (c0:SR K m H r fr s) (c1:HR K H r h) (c2:Ev.exs P w ss fr h=.ok (fl,aj) h') (c3:Fin K m r H h' fl aj Q):mS K m P w ss Q s H
def PS.of{X:Cx}{st:Stmt}{t t':TS}(h:PS X st t)(w:∀Q s H,t' Q s H->t Q s H):PS X st t':=λpins s σ H Q I q=>h pins s σ H Q I (w _ _ _ q)
def fD.of{X:Cx}{st:List Stmt}{t t':TS}(h:fD X st t)(w:∀Q s H,t' Q s H->t Q s H):fD X st t':=λpins s σ H Q I q=>h pins s σ H Q I (w _ _ _ q)
section
variable(G:Tb)(n:Nat)(sc:Scope)(N:List Str)(df:Bool)(m:List Nat)
noncomputable def JS(st:S)(x:Stmt):Prop:=∀X,Good G n sc N df X->PS X x (Ug X.K m (Ev.run G.F G.w n) G.w st)
noncomputable def nq(ss:Ss)(xs:List Stmt):Prop:=∀X,Good G n sc N df X->fD X xs (mS X.K m (Ev.run G.F G.w n) G.w ss)
end
section
variable{G:Tb}{n:Nat}{sc:Scope}{N:List Str}{df:Bool}{m:List Nat}{a b c:E}{xa xb xc tg:Expr}{pos:Pos}
def J1:nq G n sc N df m .nil []:=λX g=>fD.of yP λQ s H q=>by
 obtain⟨r,fr,h,fl,aj,h',sr,hr,e,q⟩:=q;simp only[Ev.exs]at e;cases e;exact q s H r sr hr .refl
def Fe{st:S}{ss:Ss}{x:Stmt}{xs:List Stmt}(h1:JS G n sc N df m st x)(h2:nq G n sc N df m ss xs):nq G n sc N df m (.cons st ss) (x :: xs):=λX g=>fD.of (jr (h1 X g) (h2 X g)) λQ s H q=>by
 obtain⟨r,fr,h,fl,aj,h',sr,hr,e,q⟩:=q;simp only[Ev.exs]at e;obtain⟨⟨gg,af⟩,h1,e1,e⟩:=Ev.ah e;refine⟨r,fr,h,gg,af,h1,sr,hr,e1,?_⟩;cases gg with
 |nx=>exact λs1 H1 r1 vZ hr1 f1=>⟨r1,af,h1,fl,aj,h',vZ,hr1,e,q.later f1⟩
 |bk=>cases e;exact q
 |ct=>cases e;exact q
 |ret d=>cases e;exact q
def Ng(j i:Nat){x:Str}{pos':Pos}(hm:m.Nodup)(hN:N.Nodup)(ha:JE G n sc N df m a xa)(hs:∀env:Env,swapsWith xa (some (.Name x pos')) pos.line env=pure false:=by intro _;rfl)(hj:m[j]?=some i:=by rfl)(CD:N[j]?=some x:=by rfl)
  (hl:sc.names.lookup x=some .local\/(df=true/\sc.names.lookup x=some .cell):=by first|exact Or.inl rfl|exact Or.inr ⟨rfl,rfl⟩):JS G n sc N df m (.set i a) (.Assign [.Name x pos'] xa pos):=λX g=>by
 obtain⟨h1,h2⟩:=g.loc hl;refine PS.of (qR (i:=j) (by rw[g.nm];exact hN) (by rw[g.nm];exact CD) h1 (ha X g) (hs _) h2) λQ s H q=>?_;obtain⟨r,fr,h,fl,aj,h',sr,hr,e,q⟩:=q;simp only[Ev.ex]at e;obtain⟨d,h1,e1,e⟩:=Ev.ah e;cases e;exact⟨r,fr,h,d,_,sr,hr,e1,λv H1 r1 v1 hr1 f1=>q _ H1 r1 ((sr.mono f1).set hm hj v1) hr1 f1⟩
def J2{l:List Nat}(ha:JE G n sc N df m a xa)(hg:JG G n sc N df m (.many l) tg)(hs:∀env:Env,swapsWithSole [tg] xa pos.line env=pure false:=by intro _;rfl)(hw:∀env:Env,swappedStores [tg] xa env=pure none:=by intro _;rfl)
  (h1:∀env:Env,(assignEach [tg] env).map (·.2)=[assign tg env]:=by intro _;rfl):JS G n sc N df m (.iA l a) (.Assign [tg] xa pos):=λX g=>PS.of (Ce (ha X g) (hg X g) (hs _) (hw _) (h1 _)) λQ s H q=>by
 obtain⟨r,fr,h,fl,aj,h',sr,hr,e,q⟩:=q;simp only[Ev.ex]at e;obtain⟨d,h2,e1,e⟩:=Ev.ah e;split at e
 .rename_i ao e2;cases e;exact⟨r,fr,h,d,_,sr,hr,e1,λv H1 r1 v1 hr1 f1=>⟨r1,fr,_,d,_,sr.mono f1,hr1,v1,e2,λs' W7=>q s' H1 r1 W7 hr1 f1⟩⟩
 .cases e
def J3{i:Nat}{tp:Pos}(ho:JE G n sc N df m (.v i) xa)(hi:JE G n sc N df m b xb)(hv:JE G n sc N df m c xc)
  (hs:∀env:Env,swapsWithSole [.Subscript xa xb tp] xc pos.line env=pure false:=by intro _;rfl) (hw:∀env:Env,swappedStores [.Subscript xa xb tp] xc env=pure none:=by intro _;rfl)
  (h1:∀env:Env,(assignEach [.Subscript xa xb tp] env).map (·.2)=[assign (.Subscript xa xb tp) env]:=by intro _;rfl)
  (has:∀(env:Env) v,assign (.Subscript xa xb tp) env v=(do
   let ov <-holding [v] (eval xa env)
   let iv <-holding [v,ov] (eval xb env)
   standAt tp
   holding [v,ov,iv] (setItem ov iv v)
   release [v,ov,iv] []):=by intro _ _;rfl):JS G n sc N df m (.exp (.me .kq (.v i) (.cons c (.cons b .nil)))) (.Assign [.Subscript xa xb tp] xc pos):=λX g=>PS.of (Ce (hv X g) (Mh (ho X g) (hi X g) set_list (has _)) (hs _) (hw _) (h1 _)) λQ s H q=>by
 obtain⟨r,fr,h,fl,aj,h',sr,hr,e,q⟩:=q;simp only[Ev.ex]at e;obtain⟨_,h5,ea,e'⟩:=Ev.ah e;cases e';clear e;simp only[Ev.ev,Ev.bU]at ea;obtain⟨y,h2,e2,eb⟩:=Ev.ah ea;clear ea;obtain⟨W8,rfl⟩:=Ev.aM e2;clear e2;split at eb
 case isFalse=>cases eb
 obtain⟨xs,h3,e3,e⟩:=Ev.ah eb;obtain⟨x,h4,e1,e6⟩:=Ev.ah e3;obtain⟨zs,h6,e4,e7⟩:=Ev.ah e6;clear eb e3 e6;cases e7;obtain⟨z,h7,e5,e8⟩:=Ev.ah e4;clear e4;cases e8;refine⟨r,fr,_,x,h4,sr,hr,e1,λv H1 r1 v1 hr1 f1=>?_⟩;refine⟨r1,fr,h4,y,h4,sr.mono f1,hr1,by simp only[Ev.ev];rw[W8];rfl,λu H2 r2 v2 hr2 f2=>?_⟩;refine⟨r2,fr,h4,z,_,(sr.mono f1).mono f2,hr2,e5,λt H3 r3 v3 kW f3=>?_⟩;cases y with
 |ref i=>
  cases z with
  |int k=>
   delta Ev.fq at e;dsimp only at e
   split at e
   .rename_i ds e4;split at e
    .rename_i jx e5;cases e;have v2':=v2.mono f3;simp only[RV]at v2' v3;obtain⟨p,rfl,e6⟩:=v2';subst v3;obtain⟨p',e7,vs,e8,e9⟩:=kW.ob i _ e4;rw[e6]at e7;cases e7;refine⟨p,vs,k,jx,rfl,rfl,e8,by rw[e9.length];exact e5,?_⟩;have f4:=Fm.write (K:=X.K) (ws:=vs.set jx v) e8 (aal e6);exact q s _ r3 (((sr.mono f1).mono f2).mono (f3.trans f4)) (kW.write e4 e6 e8 (e9.set jx ((v1.mono f2).mono f3))) (((f1.trans f2).trans f3).trans f4)
    .cases e
   .cases e
  |_=>cases e
 |_=>cases e
def Nh(ha:JE G n sc N df m a xa)(hs:∀env:Env,swapsWith xa none pos.line env=pure false:=by intro _;rfl):JS G n sc N df m (.exp a) (.Expr xa pos):=λX g=>PS.of (Jq (ha X g) (hs _)) λQ s H q=>by
 obtain⟨r,fr,h,fl,aj,h',sr,hr,e,q⟩:=q;simp only[Ev.ex]at e;obtain⟨d,h1,e1,e⟩:=Ev.ah e;cases e;exact⟨r,fr,h,d,_,sr,hr,e1,λv H1 r1 v1 hr1 f1=>q s H1 r1 (sr.mono f1) hr1 f1⟩
def Ni(ha:JE G n sc N df m a xa):JS G n sc N df m (.ret a) (.Return (some xa) pos):=λX g=>PS.of (vI (ha X g)) λQ s H q=>by
 obtain⟨r,fr,h,fl,aj,h',sr,hr,e,q⟩:=q;simp only[Ev.ex]at e;obtain⟨d,h1,e1,e⟩:=Ev.ah e;cases e;exact⟨r,fr,h,d,_,sr,hr,e1,q⟩
def Nj{ta tb:Ss}{ya yb:List Stmt}(hc:JT G n sc N df m a xa)(h1:nq G n sc N df m ta ya)(h2:nq G n sc N df m tb yb):JS G n sc N df m (.iff a ta tb) (.If xa ya yb pos):=λX g=>PS.of (Av (hc X g) (h1 X g) (h2 X g)) λQ s H q=>by
 obtain⟨r,fr,h,fl,aj,h',sr,hr,e,q⟩:=q;simp only[Ev.ex]at e;obtain⟨k,h3,e1,e⟩:=Ev.ah e;refine⟨r,fr,h,k,h3,sr,hr,e1,λH1 r1 hr1 f1=>?_⟩;cases k with
 |true=>exact⟨r1,fr,h3,fl,aj,h',sr.mono f1,hr1,e,q.later f1⟩
 |false=>exact⟨r1,fr,h3,fl,aj,h',sr.mono f1,hr1,e,q.later f1⟩
def Good.pass{X:Cx}(g:Good G n sc N df X):PassesOwn (model X.prog X.w) X.A X.env X.xe:=by
 rw[g.xe];exact PassesOwn.never
noncomputable def FN(K:PySem.W.Frag)(m:List Nat)(gg:Fl)(jV:Fr)(h4:Hh)(r1:List Addr)(H1:Hp)(s5:L2.St)(H5:Hp):Prop:=(gg=.nx\/gg=.ct)/\∃r5,SR K m H5 r5 jV s5/\HR K H5 r5 h4/\Fm K r1 r5 H1 H5
section
variable{K:PySem.W.Frag}{r r1 r2:List Addr}{H H1 H2:Hp}{h4 h':Hh}{fl gg:Fl}{jV aj:Fr}{Q:Ends}
noncomputable def AW(L:R (Fl×Fr))(p:Fl×Fr)(h1:Hh):R (Fl×Fr):=match p.1 with
 |.nx=>L
 |.ct=>L
 |.bk=>.ok (.nx,p.2) h1
 |.ret x=>.ok (.ret x,p.2) h1
def zb{L:R (Fl×Fr)}(e:AW L (gg,jV) h4=.ok (fl,aj) h')(z:gg=.nx\/gg=.ct):L=.ok (fl,aj) h':=by rcases z with rfl|rfl<;>exact e
def v5{L:R (Fl×Fr)}(e:AW L (gg,jV) h4=.ok (fl,aj) h')(q:Fin K m r H h' fl aj Q)(f:Fm K r r1 H H1)(f2:Fm K r1 r2 H1 H2):Fin K m r2 H2 h4 gg jV { Q with nx:=FN K m gg jV h4 r1 H1,ct:=FN K m gg jV h4 r1 H1,bk:=Q.nx }:=by
 cases gg with
 |nx=>exact λs6 H6 r6 CF CG f6=>⟨.inl rfl,r6,CF,CG,f2.trans f6⟩
 |ct=>exact λs6 H6 r6 CF CG f6=>⟨.inr rfl,r6,CF,CG,f2.trans f6⟩
 |bk=>
  cases e;exact λs6 H6 r6 CF CG f6=>q s6 H6 r6 CF CG ((f.trans f2).trans f6)
 |ret d=>
  cases e;exact Res.later q (f.trans f2)
noncomputable def v8(P:aL)(w:Nat)(t:T)(tb:Ss):D->Fr->Hh->R (Fl×Fr):=λd ao h2=>match Ev.bJ t d ao with
 |some bR=>Ev.exs P w tb bR h2
 |none=>.bad
def v9(P:aL)(w:Nat)(t:T)(it:Ev.It)(tb:Ss)(fr:Fr)(h:Hh):Ev.ex P w (.for t it tb) fr h=(Ev.cy P it fr h).bind λs h1=>Ev.forL (v8 P w t tb) s.2 s.1 fr h1:=by simp only[Ev.ex];rfl
def CH(f:D->Fr->Hh->R (Fl×Fr))(ck:List (Nat×List D))(d:D)(ds:List D)(fr:Fr)(h:Hh):Ev.forL f ck (d :: ds) fr h=if Ev.stays h ck then (f d fr h).bind λp h1=>AW (Ev.forL f ck ds p.2 h1) p h1 else .bad:=rfl
noncomputable def FW(K:PySem.W.Frag)(m:List Nat)(f:D->Fr->Hh->R (Fl×Fr))(src:Src)(r1:List Addr)(H1:Hp)(o:Fl×Fr)(h':Hh)(i k:Nat)(s3:L2.St)(H3:Hp):Prop:=
 k=src.1.length - i/\i<=src.1.length/\∃r3 bR h3,SR K m H3 r3 bR s3/\HR K H3 r3 h3/\Fm K r1 r3 H1 H3/\Ev.forL f src.2 (src.1.drop i) bR h3=.ok o h'
def Ff{P:aL}{w:Nat}{t:T}{tb:Ss}{src:Src}{J:L2.It}{i k:Nat}{s3:L2.St}{H3:Hp}(hJ:qj K r1 H1 src J)(q:Fin K m r H h' fl aj Q)(f1:Fm K r r1 H H1)(hW:FW K m (v8 P w t tb) src r1 H1 (fl,aj) h' i k s3 H3) :
  (J.stop i H3/\Q.nx s3 H3)\/(J.go i H3/\∃N:L2.St->Hp->Prop,(∀σ' H',N σ' H'->∃m',m'<k/\FW K m (v8 P w t tb) src r1 H1 (fl,aj) h' (i+1) m' σ' H')/\∀x H',J.Hf i H3 x H'->gJ K m t x s3 H' λσ2 H2=>mS K m P w tb { Q with nx:=N,ct:=N,bk:=Q.nx } σ2 H2):=by
 obtain⟨rfl,hle,r3,bR,h3,zc,kW,f3,e3⟩:=hW;rcases Nat.lt_or_ge i src.1.length with hlt|hge
 .rw[aaQ hlt,CH]at e3;split at e3
  .rename_i hst;obtain⟨g1,g2⟩:=(hJ i H3 r3 h3 kW f3 hst).1 src.1[i] (WR hlt);obtain⟨⟨gg,jV⟩,h4,e4,e3⟩:=Ev.ah e3;unfold v8 at e4;split at e4
   .rename_i uu e5;exact .inr ⟨g1,FN K m gg jV h4 r1 H1,λs5 H5 ⟨hfl,r5,CJ,uI,f5⟩=>⟨_,acM hlt (acq i),rfl,hlt,r5,jV,h4,CJ,uI,f5,zb e3 hfl⟩,λx H4 y=>
     let ⟨r4,v4,Hw,f4⟩:=g2 x H4 y
     ⟨r4,bR,h3,_,uu,zc.mono f4,Hw,v4,e5,λs5 CJ=>⟨r4,uu,h3,gg,jV,h4,CJ,Hw,e4,v5 e3 q f1 (f3.trans f4)⟩⟩⟩
   .cases e4
  .cases e3
 .have hi:i=src.1.length:=Nat.le_antisymm hle hge;subst hi;rw[List.drop_length]at e3;unfold Ev.forL at e3;split at e3
  .rename_i hst;cases e3;exact .inl ⟨(hJ _ H3 r3 _ kW f3 hst).2 (Ad _),q s3 H3 r3 zc kW (f1.trans f3)⟩
  .cases e3
end
def CK(t:Fr->Hh->R Bool)(f:Fr->Hh->R (Fl×Fr))(n:Nat)(fr:Fr)(h:Hh):Ev.di t f (n+1) fr h=(t fr h).bind λb h1=>if b then (f fr h1).bind λp h2=>AW (Ev.di t f n p.2 h2) p h2 else .ok (.nx,fr) h1:=rfl
noncomputable def WW(K:PySem.W.Frag)(m:List Nat)(P:aL)(w:Nat)(a:E)(tb:Ss)(r:List Addr)(H:Hp)(o:Fl×Fr)(h':Hh)(k:Nat)(s1:L2.St)(H1:Hp):Prop:=
 ∃r1 af h1,SR K m H1 r1 af s1/\HR K H1 r1 h1/\Fm K r r1 H H1/\Ev.di (λao h2=>Ev.aH P a ao h2) (λao h2=>Ev.exs P w tb ao h2) k af h1=.ok o h'
def Nk{tb:Ss}{yb:List Stmt}(hc:JT G n sc N df m a xa)(h1:nq G n sc N df m tb yb):JS G n sc N df m (.jU a tb) (.While xa yb [] pos):=λX g=>PS.of (ES g.pass (hc X g) (h1 X g)) λQ s H q=>by
 obtain⟨r,fr,h,fl,aj,h',sr,hr,e,q⟩:=q;simp only[Ev.ex]at e;refine⟨WW X.K m (Ev.run G.F G.w n) G.w a tb r H (fl,aj) h',⟨_,r,fr,h,sr,hr,.refl,e⟩,λk s1 H1 hW=>?_⟩;obtain⟨r1,af,h1,vZ,hr1,f1,e1⟩:=hW;cases k with
 |zero=>cases e1
 |succ k=>
  rw[CK]at e1;obtain⟨bb,h2,e2,e1⟩:=Ev.ah e1;refine⟨r1,af,h1,bb,h2,vZ,hr1,e2,λH2 r2 hr2 f2=>?_⟩;cases bb with
  |false=>
   cases e1;exact q s1 H2 r2 (vZ.mono f2) hr2 (f1.trans f2)
  |true=>
   rw[mD rfl]at e1;obtain⟨⟨gg,ao⟩,h3,e3,e1⟩:=Ev.ah e1;exact⟨FN X.K m gg ao h3 r H,λs3 H3 ⟨hfl,r3,zc,kW,f3⟩=>⟨k,acq k,r3,ao,h3,zc,kW,f3,zb e1 hfl⟩,r2,af,h2,gg,ao,h3,vZ.mono f2,hr2,e3,v5 e1 q .refl (f1.trans f2)⟩
def Nl{t:T}{it:Ev.It}{tb:Ss}{yb:List Stmt}(hi:JI G n sc N df m it tg xa)(hg:JG G n sc N df m t tg)(h1:nq G n sc N df m tb yb)(hs:∀(env:Env) x,foldedSetIterable xa env x=pure x:=by intro _ _;rfl) :
  JS G n sc N df m (.for t it tb) (.For tg xa yb [] pos):=λX g=>PS.of (Mk g.pass g.calm (hi X g) (hg X g) (h1 X g) (hs _)) λQ s H q=>by
 obtain⟨r,fr,h,fl,aj,h',sr,hr,e,q⟩:=q;rw[v9]at e;obtain⟨src,h2,e1,e⟩:=Ev.ah e;exact⟨r,fr,h,src,h2,sr,hr,e1,λJ H1 r1 hr1 f1 hJ=>⟨FW X.K m (v8 (Ev.run G.F G.w n) G.w t tb) src r1 H1 (fl,aj) h',⟨src.1.length,rfl,aa7 _,r1,fr,h2,sr.mono f1,hr1,.refl,by rw[abH];exact e⟩,λi k s3 H3 hW=>Ff hJ q f1 hW⟩⟩
end
def getElem?_range'{k j i:Nat}(h:(List.range k)[j]?=some i):i=j:=by
 obtain⟨h1,h2⟩:=List.getElem?_eq_some_iff.mp h;simpa using h2.symm
def qk{K:PySem.W.Frag}{H:Hp}{r:List Addr}{ds:List D}{vs:List V}{N:List Str}{fn:Ev.Fn}(v1:aJ K H r ds vs)(hN:vs.length<=N.length):SR K (List.range N.length) H r (Ev.dM fn ds) (L2.start N vs):=by
 refine⟨by unfold L2.start;simp;omega,λj i d e1 e2=>?_⟩;have e3:=getElem?_range' e1;subst e3;unfold Ev.dM at e2;by_cases hj:i<ds.length
 .rw[UK (by simpa using hj),aaj]at e2;cases e4:ds[i]? with
  |none=>rw[e4]at e2;cases e2
  |some d'=>
   rw[e4]at e2;cases e2;obtain⟨v,q1,q2⟩:=v1.get e4;refine⟨v,?_,q2⟩;unfold L2.start;rw[UK (by have:=v1.length;simpa using (by omega:i<vs.length)),aaj,q1];rfl
 .rw[aaN (by simpa using Nat.not_lt.mp hj),acv]at e2;split at e2<;>cases e2
section
variable{P:Program}{w:World}{K:PySem.W.Frag}{mg:Str->Option Value}{base:Heap}{G:Tb}
noncomputable def oY(P:Program)(w:World)(K:PySem.W.Frag)(mg:Str->Option Value)(base:Heap)(G:Tb)(n:Nat):Prop:=∀(f:Nat) i,G.fi[f]?=some i->fM P w K mg base jR n i.addr i.fd i.ps (nj K G.F G.w n f)
structure Top(P:Program)(w:World)(K:PySem.W.Frag)(mg:Str->Option Value)(G:Tb):Prop where
 fn:∀(f:Nat) i,G.fi[f]?=some i->mg i.name=some (.ref i.addr)/\PySem.W.keepIn K (.ref i.addr)=true/\Binds K i.fd i.ps []
 bl:∀x∈G.bl,mg x=none
 cs:∀x d,(x,d)∈G.cs->∃v u,mg x=some u/\RelV v u/\y9 K d v
 dk:∀x kvs,(x,kvs)∈G.dk->∃a,mg x=some (.ref a)/\∀h:Heap,K.In h->StrTab P w h a (tabOf kvs)
def J4{f:Addr}{fd:FuncData}{ps:List Str}{k:Nat}:fM P w K mg base jR 0 f fd ps (nj K G.F G.w 0 k):=by
 have no:∀vs H Q E,¬ nj K G.F G.w 0 k vs H Q E:=λvs H Q E h=>by
  obtain⟨r,h,ds,d,h',_,_,e,_⟩:=h;cases e
 exact⟨λvs H Q E h=>absurd h (no vs H Q E),λA outer s H args us vs Q E _ _ _ _ h=>absurd h (no vs H Q E)⟩
def dG{x qual:Str}{st:Stmt}{i:FI}{N:List Str}{n f:Nat}{fn:Ev.Fn}(T:Top P w K mg G)(A0:oY P w K mg base G n)(F:nL K x qual st i.addr i.fd)(S:bH N i.ps (aB st))(hf:G.F[f]?=some fn)(hp:i.ps.length=fn.np)
  (hb:nq G n (aB st) N true (List.range N.length) fn.body (cG st)):fM P w K mg base jR (n+1) i.addr i.fd i.ps (nj K G.F G.w (n+1) f):=by
 have hlen:∀vs H Q E,nj K G.F G.w (n+1) f vs H Q E->vs.length=i.ps.length:=λvs H Q E h=>by
  obtain⟨r,h,ds,d,h',v1,_,e,_⟩:=h;simp only[Ev.gf,hf]at e;split at e
  .rename_i z;rw[v1.length,z,hp]
  .cases e
 refine F.ok S hlen λcdv A outer s H vs Q E hr iW=>?_;have hl:=hlen vs H Q E iW;have hN:vs.length<=N.length:=by
  have:=aab List.length S.pre;rw[aa4]at this;omega
 have g:Good G n (aB st) N true (jJ jR P w K mg base N qual (aB st) i.addr cdv A outer s H E).gu:=
  ⟨rfl,rfl,rfl,λ_ _=>rfl,hr,rfl,λf i hi=>⟨(T.fn f i hi).1,(T.fn f i hi).2.1,(T.fn f i hi).2.2,A0 f i hi⟩,T.bl,T.cs,T.dk⟩
 refine⟨_,hb _ g,?_⟩;obtain⟨r,h,ds,d,h',v1,hr1,e,q⟩:=iW;simp only[Ev.gf,hf]at e;split at e
 .unfold Ev.endOf at e;obtain⟨⟨fl,aj⟩,h2,e1,e⟩:=Ev.ah e;refine⟨r,Ev.dM fn ds,h,fl,aj,h2,qk v1 hN,hr1,e1,?_⟩;cases fl with
  |nx=>
   cases e;exact λs' H' r' _ hr' f'=>q _ H' r' rfl hr' f'
  |ret d'=>
   cases e;exact q
  |bk=>cases e
  |ct=>cases e
 .cases e
end
end Sm
namespace Sm
open PySem PySem.Spec PyProof.Rows L2 PySem.SeqAt
open Ev (D O Hh Fr R aL E Es Eo T S Ss Fl Src bw bq TY BI ME)
end Sm
namespace L2
open PySem PySem.Spec PyProof.Rows
end L2
namespace Sm
open PySem PySem.Spec PyProof.Rows L2 PySem.SeqAt
open Ev (D O Hh Fr R aL E Es Eo T S Ss Fl Src bw bq TY BI ME)
end Sm
namespace Sm
open PySem PySem.Spec PyProof.Rows L2
open Ev (D O Hh Fr R aL E Es Eo T S Ss Fl Src bw bq TY BI ME)
theorem sV(env:Env):∀(names:List (Str×NameKind)) (acc:List (Str×Addr)),(∀x,(x,NameKind.free)∈names->∃c,env.cells.lookup x=some c)->(∀x c,acc.lookup x=some c->env.cells.lookup x=some c)->
  ∃cl,(forIn names acc (λ(x:Str×NameKind) cs=>if (x.2==NameKind.free)=true then (do let c <-cellOf env x.1;pure (ForInStep.yield ((x.1,c) :: cs)))else pure (ForInStep.yield cs)):Sem (List (Str×Addr)))=pure cl/\
   (∀x c,cl.lookup x=some c->env.cells.lookup x=some c)/\(∀x,(x,NameKind.free)∈names->(cl.lookup x).isSome=true)/\(∀x,(acc.lookup x).isSome=true->(cl.lookup x).isSome=true)
 |[],acc,_,h2=>⟨acc,rfl,h2,(λx h=>by simp at h),λ_ h=>h⟩
 | (y,k) :: r,acc,h1,h2=>by
  by_cases hk:k=.free
  .subst hk;obtain⟨c,hc⟩:=h1 y (aaD ..);have h2':∀x c',((y,c) :: acc).lookup x=some c'->env.cells.lookup x=some c':=λx c' e=>by
    rw[aa3]at e;split at e
    .rename_i hx;have hx':x=y:=by simpa using hx
     cases e;rw[hx'];exact hc
    .exact h2 x c' e
   obtain⟨cl,e1,e2,e3,e4⟩:=sV env r ((y,c) :: acc) (λx hx=>h1 x (aam _ hx)) h2';refine⟨cl,?_,e2,λx hx=>?_,λx hx=>e4 x ?_⟩
   .rw[List.forIn_cons];simp only[beq_self_eq_true,aan];unfold cellOf;rw[hc];exact e1
   .rcases List.mem_cons.mp hx with z|z
    .cases z;exact e4 y (by simp[aa3])
    .exact e3 x z
   .rw[aa3];split
    .rfl
    .exact hx
  .have hk':(k==NameKind.free)=false:=by simpa using hk
   obtain⟨cl,e1,e2,e3,e4⟩:=sV env r acc (λx hx=>h1 x (aam _ hx)) h2;refine⟨cl,?_,e2,λx hx=>?_,e4⟩
   .rw[List.forIn_cons];simp only[hk',aap,aa2];exact e1
   .rcases List.mem_cons.mp hx with z|z
    .cases z;exact absurd rfl hk
    .exact e3 x z
def J5{scope:Scope}{env:Env}(h:∀x,(x,NameKind.free)∈scope.names->∃c,env.cells.lookup x=some c) :
  ∃cl,closureFor scope env=pure cl/\(∀x c,cl.lookup x=some c->env.cells.lookup x=some c)/\∀x,(x,NameKind.free)∈scope.names->∃c,cl.lookup x=some c:=by
 obtain⟨cl,e1,e2,e3,_⟩:=sV env scope.names [] h (λx c e=>by simp at e);refine⟨cl,?_,e2,λx hx=>Option.isSome_iff_exists.mp (e3 x hx)⟩;unfold closureFor;show(forIn scope.names [] _ >>= λcs=>pure cs:Sem (List (Str×Addr)))=pure cl;have e:(forIn scope.names [] (λ(x:Str×NameKind) cs=>if (x.2==NameKind.free)=true then (do let c <-cellOf env x.1;pure (ForInStep.yield ((x.1,c) :: cs)))else pure (ForInStep.yield cs)):Sem (List (Str×Addr)))=pure cl:=e1;exact aab (λt:Sem (List (Str×Addr))=>t >>= λcs=>pure cs) e
noncomputable def jd(sc scope:Scope):Scope:={ scope with names:=scope.names.map λ(n,k)=>if (k==.free&&sc.kind==.function&&sc.names.lookup n==some .cell)then (n,.cell)else (n,k)}
def sW{env:Env}{sc scope:Scope}(h:env.scope=sc):relabel scope env=jd sc scope:=by
 subst h;rfl
theorem uJ{sc:Scope}:∀{names:List (Str×NameKind)}{x:Str},(∀y∈names,y.2≠.cell)->
  ((names.map λ(n,k)=>if (k==NameKind.free&&sc.kind==.function&&sc.names.lookup n==some .cell)then (n,NameKind.cell)else (n,k)).lookup x=some .cell\/
   (names.map λ(n,k)=>if (k==NameKind.free&&sc.kind==.function&&sc.names.lookup n==some .cell)then (n,NameKind.cell)else (n,k)).lookup x=some .free)->(x,NameKind.free)∈names
 |[],_,_,h=>by rcases h with h|h<;>simp at h
 | (n,k) :: r,x,hc,h=>by
  have ih:=@uJ sc r x λy hy=>hc y (aam _ hy);simp only[aaa]at h;have nk:∀(k':NameKind),(if (k==NameKind.free&&sc.kind==.function&&sc.names.lookup n==some .cell)then (n,NameKind.cell)else (n,k))=(n,k')->k'=.cell\/k'=.free->k=.free:=λk' e hk'=>by
   split at e
   .rename_i z;simp only[GY,beq_iff_eq]at z;exact z.1.1
   .cases e;rcases hk' with z|z
    .exact absurd z (hc (n,_) (aaD ..))
    .exact z
  generalize hg:(if (k==NameKind.free&&sc.kind==.function&&sc.names.lookup n==some .cell)then (n,NameKind.cell)else (n,k))=p at h nk
  have hp:p.1=n:=by rw[<-hg];split<;>rfl
  obtain⟨p1,p2⟩:=p;simp only at hp;subst hp;simp only[aa3]at h;cases hx:(x==p1)with
  |true=>
   have hx':x=p1:=by simpa using hx
   rw[hx]at h;have:=nk p2 rfl (by rcases h with h|h<;>simp at h<;>simp[h]);subst this;rw[hx'];exact aaD ..
  |false=>
   rw[hx]at h;exact aam _ (ih h)
section
variable{prog:Program}{w:World}{A:Around}{R':Result->Shared->Prop}{s:Shared}
abbrev eU:Value->Shared->Prop:=λ_ _=>False
noncomputable def zd(ifs:List Expr)(env:Env):Sem Bool:=forIn ifs true λc r=>if r=true then do let ok <-isTrue c env (eval c env);pure (ForInStep.yield ok)else pure (ForInStep.yield r)
def wc{elt target iter:Expr}{ifs:List Expr}{scope:Scope}{pos:Pos}{it acc:Value}{env:Env}(I:Nat->Shared->Prop)
  (turn:∀n s,I n s->wpAny (model prog w) A (pyNext it) (λr s₁=>match r with
   |none=>R' (.ok .next) s₁
   |some v=>wpAny (model prog w) A (letOwnedTupleGo target it v) (λ_ s₂=>wpAny (model prog w) A (assign target env v) (λ_ s₃=>
     wpAny (model prog w) A (zd ifs env) (λok s₄=>
      if ok=true then wpAny (model prog w) A (eval elt env) (λx s₅=>
       wpAny (model prog w) A (call (.builtin "list.append") [acc,x]) (λ_ s₆=>∃m,m<n/\I m s₆) eU s₅) eU s₄
      else ∃m,m<n/\I m s₄) eU s₃) eU s₂) eU s₁) eU s)
  (n:Nat) (h:I n s):codeAny (model prog w) A (.compLoop (.ListComp elt [⟨target,iter,ifs,0⟩] scope pos) 0 it acc env) R' s:=by
 refine codeAny_loop rfl I (λn s hI=>?_) n h;show wpAny _ A ((compTurn (.ListComp elt [⟨target,iter,ifs,0⟩] scope pos) 0 it acc env).onRaise (λx=>do noteFrame x env;theTreesLotGoes x)) _ _ s;refine wpAny_noted ?_;rw[compTurn_list];refine eZ (wpAny_standAt (eZ (aas (turn n s hI) (λr s₁ h₁=>?_) λ_ _ h'=>h'.elim)));cases r with
 |none=>exact uZ h₁
 |some v=>
  refine eZ (aas h₁ (λ_ s₂ h₂=>?_) λ_ _ h'=>h'.elim);refine eZ (aas h₂ (λ_ s₃ h₃=>eZ (aas h₃ (λok s₄ h₄=>?_) λ_ _ h'=>h'.elim)) λ_ _ h'=>h'.elim);cases ok with
  |false=>exact uZ ⟨rfl,h₄⟩
  |true=>
   exact eZ (eZ (aas h₄ (λx s₅ h₅=>eZ (aas h₅ (λ_ s₆ h₆=>uZ (uZ ⟨rfl,h₆⟩)) λ_ _ h'=>h'.elim)) λ_ _ h'=>h'.elim))
end
inductive Uh(K:PySem.W.Frag)(m:List Nat)(P:aL)(e:Eo)(s:L2.St)(H:Hp)(Q:Bool->Hp->Prop):Prop
 |mk (r:List Addr) (fr:Fr) (h:Hh) (k:Bool) (h':Hh) (c0:SR K m H r fr s) (c1:HR K H r h) (c2:Ev.ja P e fr h=.ok k h') (c3:∀H' r',HR K H' r' h'->Fm K r r' H H'->Q k H'):Uh K m P e s H Q
noncomputable def JC(G:Tb)(n:Nat)(sc:Scope)(N:List Str)(df:Bool)(m:List Nat)(e:Eo)(ifs:List Expr):Prop:=∀X,Good G n sc N df X->∀(pins:List (Addr×Obj)) (s:Shared) (σ:L2.St) (H:Hp) (Q:Bool->Hp->Prop),Inv X pins σ H s->
 Uh X.K m (Ev.run G.F G.w n) e σ H Q->wpAny (model X.prog X.w) X.A (zd ifs X.env) (TP X pins σ Q) X.xe s
section
variable{G:Tb}{n:Nat}{sc:Scope}{N:List Str}{df:Bool}{m:List Nat}{a:E}{xa:Expr}
def RG:JC G n sc N df m .no []:=λX g pins s σ H Q I q=>by
 obtain⟨r,fr,h,k,h',sr,hr,e,q⟩:=q;simp only[Ev.ja]at e;cases e;exact uZ ⟨H,I,q H r hr .refl⟩
def Nm(hc:JT G n sc N df m a xa):JC G n sc N df m (.yes a) [xa]:=λX g pins s σ H Q I q=>by
 obtain⟨r,fr,h,k,h',sr,hr,e,q⟩:=q;simp only[Ev.ja]at e;exact wpAny_tests_one (hc X g pins s σ H Q I ⟨r,fr,h,k,h',sr,hr,e,q⟩)
end
noncomputable def q9(X:Cx)(N':List Str)(scope:Scope)(cl:List (Str×Addr))(C:Addr)(s3:Shared)(H3:Hp)(fp:List Addr):Cx:=
 { X with N:=N',s₀:=s3,H₀:=H3,env:=compEnvC scope cl C X.env,outer:=X.stack,stack:=X.stack,ex:=fp,fn:=λ_=>false,pn:=[],xe:=λ_ _=>False }
noncomputable def namesOk(sc:Scope)(N:List Str)(m:List Nat)(scope:Scope)(t:T)(N':List Str)(m':List Nat):Prop:=m'.length=N'.length/\
 ∀(j:Nat) x i,N'[j]?=some x->m'[j]?=some i->i∈Ev.slots t\/((x,NameKind.free)∈scope.names/\∃jo:Nat,N[jo]?=some x/\m[jo]?=some i)
noncomputable def we(sc:Scope)(N:List Str)(m:List Nat)(scope:Scope)(t:T)(N':List Str)(m':List Nat):Bool:=m'.length==N'.length&&
 (List.range N'.length).all λj=>match N'[j]?,m'[j]? with
  |some x,some i=>(Ev.slots t).contains i || (scope.names.contains (x,NameKind.free)&&(List.range N.length).any λjo=>N[jo]?==some x&&m[jo]?==some i)
  |_,_=>true
def namesOk.of{sc:Scope}{N:List Str}{m:List Nat}{scope:Scope}{t:T}{N':List Str}{m':List Nat}(h:we sc N m scope t N' m'=true):namesOk sc N m scope t N' m':=by
 unfold we at h;rw[GY]at h;refine⟨by simpa using h.1,λj x i e1 e2=>?_⟩;have hj:j<N'.length:=(List.getElem?_eq_some_iff.mp e1).1;have q:=List.all_eq_true.mp h.2 j (List.mem_range.mpr hj);rw[e1,e2]at q;simp only[aaL,GY,List.any_eq_true]at q;rcases q with q|⟨q1,jo,_,q2⟩
 .exact .inl (by simpa using q)
 .exact .inr ⟨by simpa using q1,jo,by simpa using q2.1,by simpa using q2.2⟩
def yv{t:T}{d:D}{fr ao:Fr}(e:Ev.bJ t d fr=some ao){i:Nat}(hi:i∉Ev.slots t):ao[i]?=fr[i]?:=by
 have go:∀(l:List Nat) (ds:List D) (fr ao:Fr),Ev.cH l ds fr=some ao->i∉l->ao[i]?=fr[i]?:=by
  intro l;induction l with
  |nil=>
   intro ds fr ao e _;cases ds with
   |nil=>cases e;rfl
   |cons _ _=>cases e
  |cons j l ih=>
   intro ds fr ao e hj;cases ds with
   |nil=>cases e
   |cons d ds=>
    rw[ih ds _ _ e λz=>hj (aam _ z),UJ];intro z;exact hj (by rw[z];exact aaD ..)
 cases t with
 |one j=>
  cases e;rw[UJ];intro z;exact hi (by simp[Ev.slots,z])
 |many l=>
  cases d with
  |tup ds=>exact go l ds fr ao e hi
  |_=>cases e
def SR.unbind{K:PySem.W.Frag}{m:List Nat}{H:Hp}{r:List Addr}{t:T}{d:D}{fr ao:Fr}{s:L2.St}(sr:SR K m H r ao s)(e:Ev.bJ t d fr=some ao)(hu:Ev.undef t fr=true):SR K m H r fr s:=by
 refine⟨sr.len,λj i d' e1 e2=>sr.sl j i d' e1 ?_⟩;rw[yv e]
 .exact e2
 .intro hi;have q:=List.all_eq_true.mp hu i hi;rw[e2]at q;cases q
structure nR(sc scope:Scope):Prop where
 kind:scope.kind=.function
 CL:∀y∈scope.names,y.2≠.cell
 free:∀x,(x,NameKind.free)∈scope.names->(sc.names.lookup x=some .cell\/sc.names.lookup x=some .free)/\scope.names.lookup x=some .free
 loc:∀y∈scope.names,y.2=.local->scope.names.lookup y.1=some .local
noncomputable def Np(sc scope:Scope):Bool:=scope.kind==.function&&scope.names.all λy=>y.2 != .cell&&(y.2 != .free || ((sc.names.lookup y.1==some .cell ||sc.names.lookup y.1==some .free)&&scope.names.lookup y.1==some .free))&&(y.2 != .local ||scope.names.lookup y.1==some .local)
def nR.of{sc scope:Scope}(h:Np sc scope=true):nR sc scope:=by
 unfold Np at h;rw[GY]at h;have q:∀y∈scope.names,y.2≠.cell/\(y.2=.free->(sc.names.lookup y.1=some .cell\/sc.names.lookup y.1=some .free)/\scope.names.lookup y.1=some .free)/\(y.2=.local->scope.names.lookup y.1=some .local):=λy hy=>by
  have z:=List.all_eq_true.mp h.2 y hy;simp only[GY,aaL,bne_iff_ne,beq_iff_eq,ne_eq]at z;refine⟨z.1.1,λe=>?_,λe=>?_⟩
  .rcases z.1.2 with w|w
   .exact absurd e w
   .exact w
  .rcases z.2 with w|w
   .exact absurd e w
   .exact w
 exact⟨by simpa using h.1,λy hy=>(q y hy).1,λx hx=>(q _ hx).2.1 rfl,λy hy=>(q y hy).2.2⟩
theorem uK{sc:Scope}:∀{names:List (Str×NameKind)}{x:Str},names.lookup x=some .free->
  ((names.map λ(n,k)=>if (k==NameKind.free&&sc.kind==.function&&sc.names.lookup n==some .cell)then (n,NameKind.cell)else (n,k)).lookup x=some .cell\/
   (names.map λ(n,k)=>if (k==NameKind.free&&sc.kind==.function&&sc.names.lookup n==some .cell)then (n,NameKind.cell)else (n,k)).lookup x=some .free)
 |[],_,h=>by simp at h
 | (n,k) :: r,x,h=>by
  have ih:=@uK sc r x;simp only[aaa];simp only[aa3]at h;by_cases hc:(k==NameKind.free&&sc.kind==.function&&sc.names.lookup n==some .cell)=true
  .rw[mD hc];simp only[aa3];cases hx:(x==n)with
   |true=>exact .inl rfl
   |false=>rw[hx]at h;exact ih h
  .rw[Yv hc];simp only[aa3];cases hx:(x==n)with
   |true=>rw[hx]at h;exact .inr h
   |false=>rw[hx]at h;exact ih h
section
variable{G:Tb}{n:Nat}{sc scope:Scope}{N N':List Str}{df:Bool}{m m':List Nat}{t:T}{X:Cx}
def Good.comp(g:Good G n sc N df X){cl:List (Str×Addr)}{C:Addr}{s3:Shared}{H3:Hp}{fp:List Addr}:Good G n (jd sc scope) N' false (q9 X N' scope cl C s3 H3 fp):=
 ⟨rfl,sW g.sc,g.calm,(λh=>by cases h),g.room,rfl,g.fn,g.bl,g.cs,g.dk⟩
def J6{pins:List (Addr×Obj)}{σ:L2.St}{H3:Hp}{s3:Shared}(g:Good G n sc N df X)(I:Inv X pins σ H3 s3)(hs:nR sc scope){cl:List (Str×Addr)}(jL:∀x c,cl.lookup x=some c->X.env.cells.lookup x=some c)
  (nS:∀x,(x,NameKind.free)∈scope.names->∃c,cl.lookup x=some c) {fp:List Addr} (hfp:∀b∈fp,gX X pins H3 b) (hfl:∀b∈fp,b<s3.heap.objs.size):(q9 X N' scope cl s3.heap.objs.size s3 H3 fp).Ok where
 mod:=I.ok.mod
 kind:=hs.kind
 glob:=I.ok.glob
 blt:=I.ok.blt
 above:=Ad _
 inj:=λx y c h1 h2=>I.ok.inj x y c (jL x c h1) (jL y c h2)
 has:=λx h=>by
  have h':(jd sc scope).names.lookup x=some .cell\/(jd sc scope).names.lookup x=some .free:=by
   rw[<-sW (scope:=scope) g.sc];exact h
  exact nS x (uJ hs.CL h')
 vG:=λx c h=>by cases h
 hd:=I.ok.hd
 frames:=I.ok.frames
 stk:=.inl rfl
 B6:=λb hb=>⟨aah (hfl b hb),λx c e=>(hfp b hb).2.2.2.2.1 x c (jL x c e)⟩
 bs:=I.bs
 nC:=aaf I.ok.nC I.sz
 qd:=λb o e hb=>by
  rcases(hfp b hb).2.2.2.1 with z|z
  .exact I.ok.qd b o e z
  .have:=V3 (I.ok.bs b o e).1;exact absurd (xT this z) (aaK _)
 qe:=λb hb z=>by
  rcases List.mem_cons.mp (I.qO b z)with q|q
  .exact(hfp b hb).2.1 q
  .exact(hfp b hb).2.2.1 q
 iz:=I.stack
 pR:=I.sL
open Classical in
noncomputable def sig(scope:Scope)(N N':List Str)(m':List Nat)(K:PySem.W.Frag)(H:Hp)(r:List Addr)(fr:Fr)(σ:L2.St):L2.St:=
 (List.range N'.length).map λj=>if h:∃v,∃x i,N'[j]?=some x/\m'[j]?=some i/\(x,NameKind.free)∈scope.names/\(∃jo:Nat,N[jo]?=some x/\σ[jo]?=some (some v))/\∀d,fr[i]?=some (some d)->RV K H r d v then some h.choose else none
def Nq{K:PySem.W.Frag}{H:Hp}{r:List Addr}{fr:Fr}{σ:L2.St}{j:Nat}{v:V}(h:(sig scope N N' m' K H r fr σ)[j]?=some (some v)) :
  ∃x i,N'[j]?=some x/\m'[j]?=some i/\(x,NameKind.free)∈scope.names/\(∃jo:Nat,N[jo]?=some x/\σ[jo]?=some (some v))/\∀d,fr[i]?=some (some d)->RV K H r d v:=by
 unfold sig at h;rw[aaj]at h;cases e:(List.range N'.length)[j]? with
 |none=>rw[e]at h;cases h
 |some j'=>
  have:=getElem?_range' e;subst this;rw[e]at h;simp only[acy,Option.some.injEq]at h;split at h
  .rename_i hh;cases h;exact hh.choose_spec
  .cases h
def Nr{K:PySem.W.Frag}{H:Hp}{r:List Addr}{fr:Fr}{σ:L2.St}(sr:SR K m H r fr σ)(hn:namesOk sc N m scope t N' m')(hu:Ev.undef t fr=true):SR K m' H r fr (sig scope N N' m' K H r fr σ):=by
 refine⟨by unfold sig;simp[hn.1],λj i d e1 e2=>?_⟩;have hj:j<N'.length:=by rw[<-hn.1];exact(List.getElem?_eq_some_iff.mp e1).1
 have hx:N'[j]?=some N'[j]:=WR hj;rcases hn.2 j _ i hx e1 with hi|⟨h1,jo,h2,h3⟩
 .exfalso;have q:=List.all_eq_true.mp hu i hi;rw[e2]at q;cases q
 .obtain⟨v,h4,h5⟩:=sr.sl jo i d h3 e2;have ex:∃v,∃x i,N'[j]?=some x/\m'[j]?=some i/\(x,NameKind.free)∈scope.names/\(∃jo:Nat,N[jo]?=some x/\σ[jo]?=some (some v))/\∀d,fr[i]?=some (some d)->RV K H r d v:=
   ⟨v,N'[j],i,hx,e1,h1,⟨jo,h2,h4⟩,λd' e'=>by rw[e2]at e';cases e';exact h5⟩
  refine⟨ex.choose,?_,?_⟩
  .unfold sig;rw[aaj,ab5 hj];simp only[acy];rw[dif_pos ex]
  .obtain⟨x',i',q1,q2,q3,q4,q5⟩:=ex.choose_spec;rw[e1]at q2;cases q2;exact q5 d e2
def Fi{pins:List (Addr×Obj)}{σ:L2.St}{H3:Hp}{s3:Shared}(g:Good G n sc N df X)(I:Inv X pins σ H3 s3)(hs:nR sc scope){cl:List (Str×Addr)}(jL:∀x c,cl.lookup x=some c->X.env.cells.lookup x=some c)
  (nS:∀x,(x,NameKind.free)∈scope.names->∃c,cl.lookup x=some c) {fp:List Addr} (hfp:∀b∈fp,gX X pins H3 b) (hfl:∀b∈fp,b<s3.heap.objs.size) {h1:Heap} {tk:Nat} {mm:Str->Option Value}
  (hns:h1.Ns s3.heap.objs.size mm) (hk:∀b o,s3.heap.get? b=some o->h1.get? b=some o) {r:List Addr} {fr:Fr} :
  Inv (q9 X N' scope cl s3.heap.objs.size s3 H3 fp) [] (sig scope N N' m' X.K H3 r fr σ) H3 { s3 with heap:=h1,toks:=tk }:=by
 refine⟨J6 g I hs jL nS hfp hfl,rfl,I.bare,Un.kept hk,⟨mm,hns,λj x v e1 e2 e3=>?_⟩,λx c e=>?_,I.hok.fresh (Ad _),λx c e=>I.ir x c (jL x c e),(λp hp=>by simp[q9]at hp),I.hok.kept hk,(by unfold sig;simp[q9])⟩
 .obtain⟨x',i,q1,q2,q3,⟨jo,q4,q5⟩,_⟩:=Nq e2;have W9:N'[j]?=some x:=e1;rw[W9]at q1;cases q1;obtain⟨f1,f2⟩:=hs.free x q3;obtain⟨mO,YQ,Xa⟩:=I.loc;obtain⟨u,ru,lk⟩:=Xa jo x v (by rw[g.nm];exact q4) q5 (by rw[g.sc];rcases f1 with z|z<;>simp[uo,z]);refine⟨u,ru,?_⟩;have hkd:X.env.kindOf x=some .cell\/X.env.kindOf x=some .free:=by unfold Env.kindOf;rw[g.sc];exact f1
  rcases lk with ⟨z,_⟩|⟨_,c,hc,hcell⟩
  .rcases hkd with w|w <;> (rw[z]at w;cases w)
  .obtain⟨c',hc'⟩:=nS x q3;have:c'=c:=by
    have:=jL x c' hc';rw[hc]at this;cases this;rfl
   subst this;refine .inr ⟨?_,c',hc',?_⟩
   .show(relabel scope X.env).names.lookup x=some .cell\/(relabel scope X.env).names.lookup x=some .free;rw[sW (scope:=scope) g.sc];exact uK f2
   .obtain⟨o,ho,hd⟩:=hcell;exact⟨o,hk _ _ ho,hd⟩
 .obtain⟨v,o,ho,hd⟩:=I.cell x c (jL x c e);exact⟨v,o,hk _ _ ho,hd⟩
end
section
variable{G:Tb}{n:Nat}{sc scope:Scope}{N N':List Str}{df:Bool}{m m':List Nat}{elt:E}{t:T}{it:Ev.It}{cond:Eo}{xe xi tg:Expr}{ifs:List Expr}{pos:Pos}{X:Cx}
noncomputable def AX(P:aL)(elt:E)(t:T)(cond:Eo)(fr:Fr):D->Hh->R (Option D):=λd h2=>match Ev.bJ t d fr with
 |none=>.bad
 |some ao=>(Ev.ja P cond ao h2).bind λk h3=>if k then (Ev.ev P elt ao h3).bind λx h4=>.ok (some x) h4 else .ok none h3
def sX(P:aL)(elt:E)(t:T)(it:Ev.It)(cond:Eo)(fr:Fr)(h:Hh):Ev.ev P (.comp elt t it cond) fr h=(Ev.cy P it fr h).bind λs h1=>if Ev.undef t fr then
  (Ev.cK (AX P elt t cond fr) s.2 s.1 h1).bind λds h2=>Ev.alloc ds h2 else .bad:=by
 simp only[Ev.ev];rfl
noncomputable def CI(Y:Cx)(m':List Nat)(f:D->Hh->R (Option D))(fr:Fr)(src:Src)(fp:List Addr)(tn:Nat->Heap->Prop)(r2:List Addr)(H2:Hp)(Dd:Addr)(ds:List D)(h2:Hh)(k:Nat)(s:Shared):Prop:=
 ∃i pV Hc rc hc dn vs rest,Inv Y [] pV Hc s/\tn i s.heap/\(∀b∈fp,Hc b=none)/\k=src.1.length - i/\i<=src.1.length/\
  SR Y.K m' Hc rc fr pV/\HR Y.K Hc rc hc/\Fm Y.K r2 rc H2 Hc/\Hc Dd=some (.lst vs)/\Dd∉rc/\aJ Y.K Hc rc dn vs/\Ev.cK f src.2 (src.1.drop i) hc=.ok rest h2/\dn++rest=ds
section
variable{Y:Cx}{sc':Scope}{J:L2.It}{fp:List Addr}{ita:Addr}{tn:Nat->Heap->Prop}{fr:Fr}{src:Src}{r2:List Addr}{H2:Hp}{Dd:Addr}{ds:List D}{h2:Hh}
def AY(gC:Good G n sc' N' false Y){α:Type}{tt:Sem α}{Q:α->Shared->Prop}{s:Shared}(hw:wpAny (model Y.prog Y.w) Y.A tt Q Y.xe s):wpAny (model Y.prog Y.w) Y.A tt Q eU s:=by rw[gC.xe]at hw;exact hw
def ze{i:Nat}{nu:L2.St}{H9:Hp}{r9:List Addr}{h9:Hh}{dn:List D}{vs:List V}{rest':List D}{s9:Shared}{p:List (Addr×Obj)}{f:D->Hh->R (Option D)}(hlt:i<src.1.length)(I9:Inv Y ([]++p) nu H9 s9)(bk:tn (i+1) s9.heap/\∀b∈fp,H9 b=none)(q:SR Y.K m' H9 r9 fr nu)(uL:HR Y.K H9 r9 h9)(fm:Fm Y.K r2 r9 H2 H9)(AZ:H9 Dd=some (.lst vs))(A2:Dd∉r9)(rv:aJ Y.K H9 r9 dn vs)(e7:Ev.cK f src.2 (src.1.drop (i+1)) h9=.ok rest' h2)(ed:dn++rest'=ds) :
  ∃k,k<src.1.length - i/\CI Y m' f fr src fp tn r2 H2 Dd ds h2 k s9:=
 ⟨src.1.length - (i+1),acM hlt (acq i),i+1,nu,H9,r9,h9,dn,vs,rest',I9.mL,bk.1,bk.2,rfl,hlt,q,uL,fm,AZ,A2,rv,e7,ed⟩
def Nt{i:Nat}{nu:L2.St}{H9:Hp}{r9:List Addr}{h9:Hh}{dn:List D}{vs:List V}{xd:D}{v10:V}{Hx:Value}{rest':List D}{s9:Shared}{p:List (Addr×Obj)}{f:D->Hh->R (Option D)}(hlt:i<src.1.length)(nv:H2 Dd=none)(hsz:ds.length<=sizeLine)(gC:Good G n sc' N' false Y)(I9:Inv Y ([]++p) nu H9 s9)(Fj:RelV v10 Hx)(bk:∀{σ':L2.St}{H':Hp}{s':Shared},Inv Y ([]++p) σ' H' s'->tn (i+1) s'.heap/\∀b∈fp,H' b=none)(q:SR Y.K m' H9 r9 fr nu)(uL:HR Y.K H9 r9 h9)(fm:Fm Y.K r2 r9 H2 H9)(pW:H9 Dd=some (.lst vs))(wg:Dd∉r9)(rv:aJ Y.K H9 r9 dn vs)(Fp:RV Y.K H9 r9 xd v10)(e7:Ev.cK f src.2 (src.1.drop (i+1)) h9=.ok rest' h2)(ed:dn++xd :: rest'=ds) :
  wpAny (model Y.prog Y.w) Y.A (call (.builtin "list.append") [.ref Dd,Hx]) (λ_ CM=>∃k,k<src.1.length - i/\CI Y m' f fr src fp tn r2 H2 Dd ds h2 k CM) eU s9:=by
 have hlen:vs.length<sizeLine:=by
  have h1:=rv.length;have h2:=aab List.length ed;simp at h2;omega
 refine bC (AY gC (uB _ s9 nu H9 (.ref Dd) [v10] (.ref Dd) [Hx] (λ_ Ui=>Ui=upd H9 Dd (.lst (vs++[v10]))) I9 rfl (.cons Fj .nil) ⟨Dd,vs,v10,rfl,rfl,pW,hlen,rfl⟩)) λ_ CM ⟨_,Ui,Uj,_,VD⟩=>?_;subst VD;refine ze (dn:=dn++[xd]) (vs:=vs++[v10]) hlt Uj (bk Uj) ?_ (uL.other pW wg) (fm.other nv pW) cz wg ?_ e7 ?_
 .exact⟨q.len,λj i' d' a1 a2=>by
   obtain⟨w,b1,b2⟩:=q.sl j i' d' a1 a2;exact⟨w,b1,b2.grow (λ_ _ z=>z) (jc pW)⟩⟩
 .exact(rv.append (.cons Fp .nil)).grow (λ_ _ z=>z) (jc pW)
 .rw[<-ed];simp
def CN(gC:Good G n sc' N' false Y)(hg:JG G n sc' N' false m' t tg)(hc:JC G n sc' N' false m' cond ifs)(he:JE G n sc' N' false m' elt xe)(Tn:Turn Y.prog Y.w Y.K tg J fp ita tn)(mP:∀{Hc:Hp},(∀b∈fp,Hc b=none)->∀b∈fp,gX Y [] Hc b)
  (hu:Ev.undef t fr=true) (hJ:qj Y.K r2 H2 src J) (nv:H2 Dd=none) (hsz:ds.length<=sizeLine) {R':Result->Shared->Prop}
  (VE:∀s6 pV Hc rc vs,Inv Y [] pV Hc s6->HR Y.K Hc rc h2->Fm Y.K r2 rc H2 Hc->Hc Dd=some (.lst vs)->Dd∉rc->aJ Y.K Hc rc ds vs->R' (.ok .next) s6) {k:Nat} {s:Shared}
  (h:CI Y m' (AX (Ev.run G.F G.w n) elt t cond fr) fr src fp tn r2 H2 Dd ds h2 k s):codeAny (model Y.prog Y.w) Y.A (.compLoop (.ListComp xe [⟨tg,xi,ifs,0⟩] scope pos) 0 (.ref ita) (.ref Dd) Y.env) R' s:=by
 refine wc (CI Y m' (AX (Ev.run G.F G.w n) elt t cond fr) fr src fp tn r2 H2 Dd ds h2) ?_ k h;rintro k s5 ⟨i,pV,Hc,rc,hc',dn,vs,rest,I5,yS,uu,rfl,hle,CJ,uI,wj,pW,wg,CO,e5,Hy⟩;rcases Nat.lt_or_ge i src.1.length with hlt|hge
 .rw[aaQ hlt]at e5;simp only[Ev.cK]at e5;split at e5
  .rename_i hst;obtain⟨hgo,_⟩:=hJ i Hc rc hc' uI wj hst;obtain⟨g1,g2⟩:=hgo src.1[i] (WR hlt);obtain⟨o,h6,e6,e5⟩:=Ev.ah e5;obtain⟨rest',h7,e7,e5⟩:=Ev.ah e5;cases e5;refine bC (Tn.item Y rfl rfl rfl gC.calm i [] s5 pV Hc eU I5 (mP uu) yS g1) λrr s6 ⟨u,Xb,h8⟩=>?_;subst Xb;refine bC h8 λ_ s7 ⟨x,H7,I7,rx,y7,Nu,Xc⟩=>?_;obtain⟨r7,v7,Uk,zf⟩:=g2 x H7 y7;obtain⟨VF,VG⟩:=zf.AS pW wg;unfold AX at e6;split at e6
   .cases e6
   .rename_i ao eb;obtain⟨kk,h9,e9,e6⟩:=Ev.ah e6;have Xd:=I7.pinned (mP Xc) (Tn.obj _ _ Nu);refine bC (AY gC (hg _ gC _ s7 pV H7 x u (λnu H8=>H8=H7/\SR Y.K m' H7 r7 ao nu) Xd rx ⟨r7,fr,hc',_,ao,CJ.mono zf,Uk,v7,eb,λs' q=>⟨rfl,q⟩⟩)) λ_ s8 ⟨nu,H8,I8,Xe,Hz⟩=>?_;subst Xe;refine bC (AY gC (hc _ gC _ s8 nu _ (λb H9=>b=kk/\∃r9,HR Y.K H9 r9 h9/\Fm Y.K r7 r9 _ H9) I8 ⟨r7,ao,hc',kk,h9,Hz,Uk,e9,λH9 r9 uL f9=>⟨rfl,r9,uL,f9⟩⟩)) λbb s9 ⟨H9,I9,MK,r9,uL,uM⟩=>?_;subst MK;obtain⟨A2,AZ⟩:=uM.AS VG VF;have back:∀{σ':L2.St} {H':Hp} {s':Shared},Inv Y ([]++nF fp s7.heap) σ' H' s'->tn (i+1) s'.heap/\∀b∈fp,H' b=none:=λ{σ' H' s'} I'=>
     ⟨Tn.keep _ _ _ Nu λb hb o e=>(I'.pin (b,o) (aat _ (aat _ (jY hb e)))).1,λb hb=>
      let ⟨o,e,_⟩:=Tn.obj _ _ Nu b hb
      (I'.pin (b,o) (aat _ (aat _ (jY hb e)))).2.1⟩
    cases bb with
    |false=>
     simp only[aap,aa2]at e6 ⊢;cases e6;exact ze hlt I9 (back I9) ((Hz.mono uM).unbind eb hu) uL ((wj.trans zf).trans uM) AZ A2 ((CO.mono zf).mono uM) e7 Hy
    |true=>
     simp only[aan]at e6 ⊢;obtain⟨xd,YR,Xf,e6⟩:=Ev.ah e6;cases e6;refine bC (AY gC (he _ gC _ s9 nu H9 (λv CP=>∃zg,RV Y.K CP zg xd v/\HR Y.K CP zg _/\Fm Y.K r9 zg H9 CP) I9 ⟨r9,ao,h9,xd,_,Hz.mono uM,uL,Xf,λv CP zg v10 Fq uN=>⟨zg,v10,Fq,uN⟩⟩)) λHx Nv ⟨v10,CP,Xg,Fj,zg,Fp,Fq,A3⟩=>?_;obtain⟨RH,RI⟩:=A3.AS AZ A2;exact Nt hlt nv hsz gC Xg Fj back (((Hz.mono uM).mono A3).unbind eb hu) Fq (((wj.trans zf).trans uM).trans A3) RI RH (((CO.mono zf).mono uM).mono A3) Fp e7 Hy
  .cases e5
 .have hi':i=src.1.length:=Nat.le_antisymm hle hge;subst hi';rw[List.drop_length]at e5;simp only[Ev.cK]at e5;split at e5
  .rename_i hst;cases e5;refine bC (Tn.done Y rfl rfl rfl gC.calm _ [] s5 pV Hc eU I5 (mP uu) yS ((hJ _ Hc rc _ uI wj hst).2 (Ad _))) λrr s6 ⟨hrr,I6⟩=>?_;subst hrr;rw[aae]at Hy;subst Hy;exact VE s6 pV Hc rc vs I6 uI wj pW wg CO
  .cases e5
end
def CQ(g:Good G n sc N df X)(hi:JI G n sc N df m it tg xi)(hg:JG G n (jd sc scope) N' false m' t tg)(hc:JC G n (jd sc scope) N' false m' cond ifs)(he:JE G n (jd sc scope) N' false m' elt xe)
  (hn:namesOk sc N m scope t N' m') (hs:nR sc scope) {cl:List (Str×Addr)} (jL:∀x c,cl.lookup x=some c->X.env.cells.lookup x=some c) (nS:∀x,(x,NameKind.free)∈scope.names->∃c,cl.lookup x=some c)
  {pins:List (Addr×Obj)} {σ:L2.St} {H:Hp} {s:Shared} (I:Inv X pins σ H s) {r:List Addr} {fr:Fr} {h:Hh} {d:D} {h':Hh} (sr:SR X.K m H r fr σ) (hr:HR X.K H r h)
  (e:Ev.ev (Ev.run G.F G.w n) (.comp elt t it cond) fr h=.ok d h') (post:Value->Addr->Result->Shared->Prop)
  (hpost:∀Dd C s' H' r',Inv X pins σ H' s'->(∃mm,s'.heap.Ns C mm)->gX X pins H' C->RV X.K H' r' d (.ref Dd)->HR X.K H' r' h'->Fm X.K r r' H H'->post (.ref Dd) C (.ok .next) s') {E:Value->Shared->Prop} (hE:X.xe=λ_ _=>False) :
  wpAny (model X.prog X.w) X.A (eval xi X.env) (λx s₁=>wpAny (model X.prog X.w) X.A (pyIter x) (λitv s₂=>wpAny (model X.prog X.w) X.A (newList []) (λacc s₃=>
   wpAny (model X.prog X.w) X.A (newFunctionEnv scope X.env.globals cl [] X.env.qual none .none (some X.env)) (λcenv s₄=>
    codeAny (model X.prog X.w) X.A (.compStart (.ListComp xe [⟨tg,xi,ifs,0⟩] scope pos) 0 itv acc { cenv with scope:=relabel scope X.env }) (post acc cenv.locals) s₄) E s₃) E s₂) E s₁) E s:=by
 rw[sX]at e;obtain⟨src,h1,e1,e⟩:=Ev.ah e;split at e
 .rename_i hu;obtain⟨ds,h2,e2,e⟩:=Ev.ah e;have gu:∀{α:Type} {tt:Sem α} {Q:α->Shared->Prop} {s:Shared},wpAny (model X.prog X.w) X.A tt Q X.xe s->wpAny (model X.prog X.w) X.A tt Q E s:=λ{α tt Q s} hw=>aas hw (λ_ _ q=>q) λ_ _ q=>by rw[hE]at q;exact q.elim
  refine bC (gu (hi X g pins s σ H (λJ H2=>∃r2,HR X.K H2 r2 h1/\Fm X.K r r2 H H2/\qj X.K r2 H2 src J) I ⟨r,fr,h,src,h1,sr,hr,e1,λJ H2 r2 hr2 f2 hJ=>⟨r2,hr2,f2,hJ⟩⟩)) λv s1 q1=>?_;refine bC (gu q1) λitv s2 q2=>?_;obtain⟨ita,fp,tn,J,H2,rfl,I2,Tn,st2,f2,r2,hr2,HA,hJ⟩:=q2;refine aaA ?_;generalize HC:s2.heap.objs.size=Dd
  have nv:H2 Dd=none:=by rw[<-HC];exact I2.fresh
  have I3:Inv X pins σ (upd H2 Dd (.lst [])) { s2 with heap:=s2.heap.push { cls:=.type "list",data:=.seq ([]:List Value).toArray }}:=by
   have:=I2.E1 (ys:=[]) (its:=[]) (t':=s2.toks) .nil (aa7 _);rw[HC]at this;exact this
  have Nx:∀b∈fp,b<s2.heap.objs.size:=λb hb=>by
   obtain⟨o,e,_⟩:=Tn.obj 0 _ st2 b hb;exact V3 e
  generalize Ny:({ s2 with heap:=s2.heap.push { cls:=.type "list",data:=.seq ([]:List Value).toArray }}:Shared)=s3 at I3
  have VH:s3.heap.objs.size=s2.heap.objs.size+1:=by rw[<-Ny];exact Heap.size_push ..
  have k3:∀b o,s2.heap.get? b=some o->s3.heap.get? b=some o:=λb o e=>by rw[<-Ny];exact vz _ e
  have Nz:∀b∈fp,b<s3.heap.objs.size:=λb hb=>xT (Nx b hb) (by rw[VH];exact acW _);have sY:∀b∈fp,gX X pins (upd H2 Dd (.lst [])) b:=λb hb=>⟨by rw[bf (λz=>absurd (Nx b hb) (by rw[z,HC];exact aaK _))];exact(f2 b hb).1,(f2 b hb).2⟩
  refine wpAny_newFunctionEnv (hs.CL) (λy hy=>by simp at hy) (λNB VI VJ=>?_) hs.kind;have k4:∀b o,s3.heap.get? b=some o->NB.get? b=some o:=λb o e=>VJ.extBut b o (aah (V3 e)) (vz _ e);have gC:Good G n (jd sc scope) N' false (q9 X N' scope cl s3.heap.objs.size s3 (upd H2 Dd (.lst [])) fp):=g.comp;have I4:Inv (q9 X N' scope cl s3.heap.objs.size s3 (upd H2 Dd (.lst [])) fp) [] (sig scope N N' m' X.K (upd H2 Dd (.lst [])) r2 fr σ) (upd H2 Dd (.lst [])) { s3 with heap:=NB,toks:=s3.toks+0 }:=
   Fi g I3 hs jL nS sY Nz VI k4
  have zc:SR X.K m' (upd H2 Dd (.lst [])) r2 fr (sig scope N N' m' X.K (upd H2 Dd (.lst [])) r2 fr σ):=Nr (((sr.mono HA).mono (Fm.tup nv))) hn hu;have kW:HR X.K (upd H2 Dd (.lst [])) r2 h1:=hr2.tup nv;have Ul:Dd∉r2:=λhm=>by
   obtain⟨k,hk⟩:=acK hm;have hlt:k<h1.length:=by rw[<-hr2.len];exact(List.getElem?_eq_some_iff.mp hk).1
   obtain⟨a,e3,e4⟩:=hr2.ob k _ (WR hlt);rw[hk]at e3;cases e3;cases eo:h1[k]with
   |lst dd=>rw[eo]at e4;obtain⟨us,e5,_⟩:=e4;rw[nv]at e5;cases e5
   |bY dd=>
    rw[eo]at e4;obtain⟨us,e5,_⟩:=e4;rcases e5 with ⟨ob,e5⟩|⟨ob,_,_,e5,_⟩
    .rw[nv]at e5;cases e5
    .have:=V3 (I2.jE _ _ e5);rw[HC]at this;exact absurd this (aaK _)
   |dw kvs=>rw[eo]at e4;have e5:=e4.1;rw[nv]at e5;cases e5
  have Xh:H Dd=none:=by
   cases z:H Dd with
   |none=>rfl
   |some o=>
    have hnr:Dd∉r:=λhm=>by
     obtain⟨k,hk⟩:=acK hm;exact Ul (aal (HA.pre _ _ hk))
    have:=HA.keep _ _ z hnr;rw[nv]at this;cases this
  have mP:∀{Hc:Hp},(∀b∈fp,Hc b=none)->∀b∈fp,gX (q9 X N' scope cl s3.heap.objs.size s3 (upd H2 Dd (.lst [])) fp) [] Hc b:=λ{Hc} hz b hb=>by
   refine⟨hz b hb,aah (Nz b hb),(I4.ok).qe b hb,.inl hb,λx c e=>((I4.ok).B6 b hb).2 x c e,λp hp=>?_⟩;simp[q9]at hp
  have hsz:ds.length<=sizeLine:=by
   unfold Ev.alloc at e;split at e
   .rename_i z;rw[<-jG];exact z
   .cases e
  have fin:codeAny (model X.prog X.w) X.A (.compLoop (.ListComp xe [⟨tg,xi,ifs,0⟩] scope pos) 0 (.ref ita) (.ref Dd) (compEnvC scope cl s3.heap.objs.size X.env)) (post (.ref Dd) s3.heap.objs.size) { s3 with heap:=NB,toks:=s3.toks+0 }:=by
   refine CN gC hg hc he Tn mP hu hJ nv hsz (λs6 pV Hc rc vs I6 uI wj pW wg CO=>?_) ⟨0,_,_,r2,h1,[],[],ds,I4,Tn.keep _ _ _ st2 λb hb o eo=>k4 b o (k3 b o eo),λb hb=>(sY b hb).1,rfl,aa7 _,zc,kW,Fm.tup nv,cz,Ul,.nil,by rw[abH];exact e2,rfl⟩;unfold Ev.alloc at e;split at e
   .cases e;obtain⟨Xi,VL,_⟩:=I6.loc;refine hpost Dd _ s6 Hc (rc++[Dd]) ?_ ⟨Xi,VL⟩ ?_ ⟨Dd,rfl,?_⟩ (uI.known pW wg CO) ((HA.trans wj).known ?_)
    .exact I3.vd (ch:=fp) (I6.os) I6.base I6.hok I6.bare λb hb=>⟨(sY b hb).2.2.2.1,(sY b hb).2.1,(sY b hb).2.2.2.2.1,(sY b hb).2.2.2.2.2⟩
    .exact I3.Aw (Ad _) I6.free
    .rw[<-uI.len];simp
    .exact Xh
   .cases e
  subst Ny;exact codeAny_compStart_list fin (Tn.self _ 0 _ _ _ (Tn.keep _ _ _ st2 λb hb o eo=>k4 b o (k3 b o eo)) fin)
 .cases e
end
section
variable{G:Tb}{n:Nat}{sc scope:Scope}{N N':List Str}{df:Bool}{m m':List Nat}{elt:E}{t:T}{it:Ev.It}{cond:Eo}{xe xi tg:Expr}{ifs:List Expr}{pos:Pos}
theorem Good.cells{X:Cx}{pins:List (Addr×Obj)}{σ:L2.St}{H:Hp}{s:Shared}(g:Good G n sc N df X)(I:Inv X pins σ H s)(hs:nR sc scope) :
  ∃cl,closureFor scope X.env=pure cl/\(∀x c,cl.lookup x=some c->X.env.cells.lookup x=some c)/\∀x,(x,NameKind.free)∈scope.names->∃c,cl.lookup x=some c:=
 J5 λx hx=>I.ok.has x (by unfold Env.kindOf;rw[g.sc];exact(hs.free x hx).1)
def NC{X:Cx}{pins:List (Addr×Obj)}{σ:L2.St}{H:Hp}{s:Shared}(I:Inv X pins σ H s){C:Addr}(fp:gX X pins H C){h':Heap}(hs:Heap.SameBut C s.heap h'):Inv X pins σ H { s with heap:=h' }:=
 I.turned (t':=s.toks) (λb o hb e=>hs.extBut b o hb e) fp.1 fp.2.1 fp.2.2.2.1 fp.2.2.2.2.1 fp.2.2.2.2.2
def J7(hi:JI G n sc N df m it tg xi)(hg:JG G n (jd sc scope) N' false m' t tg)(hc:JC G n (jd sc scope) N' false m' cond ifs)(he:JE G n (jd sc scope) N' false m' elt xe)
  (hn:namesOk sc N m scope t N' m') (hs:nR sc scope) (hf:∀(env:Env) x,foldedSetIterable xi env x=pure x:=by intro _ _;rfl):JE G n sc N df m (.comp elt t it cond) (.ListComp xe [⟨tg,xi,ifs,0⟩] scope pos):=λX g pins s σ H Q I q=>by
 obtain⟨r,fr,h,d,h',sr,hr,e,q⟩:=q;obtain⟨cl,hcl,jL,nS⟩:=g.cells I hs;rw[eval_ListComp];refine wpAny_comprehension_free (use:=none) (Q:=EP X pins σ Q) rfl (hf _) hcl hs.kind hs.loc ?_;refine CQ g hi hg hc he hn hs jL nS I sr hr e (λacc C=>compPost (model X.prog X.w) X.A X.xe none (EP X pins σ Q) acc C) (λDd C s' H' r' I' hC fp rv hr' Xj=>?_) g.xe;obtain⟨mm,hC⟩:=hC;exact⟨mm,hC,λh'' Xk=>⟨.ref Dd,H',NC I' fp Xk,rfl,q _ H' r' rv hr' Xj⟩⟩
end
end Sm
namespace Sm
open PySem PySem.Spec PyProof.Rows L2 PySem.SeqAt
open Ev (D O Hh Fr R aL E Es Eo T S Ss Fl Src bw bq TY BI ME)
structure wk(A:Around)(s:Shared)(u w:Value)(k:Bool):Prop where
 eq:EqAt A s u w k
 rc:RcAt A s u w k
 ne:RcNeAt A s u w (!k)
theorem sZ{f:D->D->Option Bool}:∀{x y:List D},x.length≠y.length->∀{k},Ev.b9 f x y=some k->k=false
 |[],[],h,_,_=>absurd rfl h
 |[],_ :: _,_,_,e=>by cases e;rfl
 |_ :: _,[],_,_,e=>by cases e;rfl
 |a :: x,b :: y,h,k,e=>by
  simp only[Ev.b9,abv,V4]at e;obtain⟨p,_,q,e2,e3⟩:=e;have:=sZ (x:=x) (y:=y) (by simpa using h) e2;subst this;cases e3;simp
theorem zh{f:D->D->Option Bool}:∀{x y:List D}{k},Ev.b9 f x y=some k->x.length=y.length->∃e:Nat->Bool,(∀(j:Nat) a b,x[j]?=some a->y[j]?=some b->f a b=some (e j))/\(List.range x.length).all e=k
 |[],[],_,h,_=>⟨λ_=>true,(λj a b h1=>by simp at h1),by cases h;simp⟩
 |[],_ :: _,_,_,h=>by simp at h
 |_ :: _,[],_,_,h=>by simp at h
 |a :: x,b :: y,k,h,hl=>by
  simp only[Ev.b9,abv,V4]at h;obtain⟨p,e1,q,e2,e3⟩:=h;cases e3;obtain⟨e,h1,h2⟩:=zh e2 (by simpa using hl);refine⟨λj=>match j with|0=>p|j+1=>e j,λj a' b' g1 g2=>?_,?_⟩
  .cases j with
   |zero=>simp at g1 g2;subst g1 g2;exact e1
   |succ j=>exact h1 j a' b' (by simpa using g1) (by simpa using g2)
  .rw[aai,acA,acL,List.all_map,<-h2];rfl
theorem zj{f:D->D->Option Bool}:∀{x y:List D}{k},Ev.b9 f x y=some k->∃e:Nat->Bool,∀(j:Nat) a b,x[j]?=some a->y[j]?=some b->f a b=some (e j)
 |[],_,_,_=>⟨λ_=>true,λj a b h1=>by simp at h1⟩
 |_ :: _,[],_,_=>⟨λ_=>true,λj a b _ h1=>by simp at h1⟩
 |a :: x,b :: y,k,h=>by
  simp only[Ev.b9,abv,V4]at h;obtain⟨p,e1,q,e2,e3⟩:=h;obtain⟨e,h1⟩:=zj e2;refine⟨λj=>match j with|0=>p|j+1=>e j,λj a' b' g1 g2=>?_⟩;cases j with
  |zero=>simp at g1 g2;subst g1 g2;exact e1
  |succ j=>exact h1 j a' b' (by simpa using g1) (by simpa using g2)
section
variable{X:Cx}{pins:List (Addr×Obj)}{σ:L2.St}{H:Hp}{s:Shared}{r:List Addr}{h:Hh}
def oZ(I:Inv X pins σ H s){a b:Addr}{vs ws:List V}(h1:AR X.K H a vs)(h2:H b=some (.lst ws)):a≠b:=by
 rintro rfl;rcases h1 with ⟨o,h1⟩|⟨o,_,_,h1,_⟩
 .rw[h2]at h1;cases h1
 .have:=(I.bs a o (I.ok.mod.cW a o h1)).2;rw[h2]at this;cases this
def uO{x y:List D}{vs ws:List V}{us zs:List Value}{f:D->D->Option Bool}{A:Around}{k:Bool}(v1:aJ X.K H r x vs)(v2:aJ X.K H r y ws)(p1:Vals vs us)(p2:Vals ws zs)
  (ih:∀a b va vb u w k,RV X.K H r a va->RV X.K H r b vb->RelV va u->RelV vb w->f a b=some k->wk A s u w k) (hl:x.length=y.length) (e:Ev.b9 f x y=some k) :
  ∃e':Nat->Bool,(∀j (h1:j<us.toArray.size) (h2:j<zs.toArray.size),EqAt A s us.toArray[j] zs.toArray[j] (e' j))/\(List.range us.toArray.size).all e'=k/\us.length=zs.length:=by
 obtain⟨e',h1,h2⟩:=zh e hl;have l1:=v1.length;have l2:=v2.length;have l3:=p1.length;have l4:=p2.length;refine⟨e',λj g1 g2=>?_,?_,by omega⟩
 .have Xl:j<us.length:=by simpa using g1
  have Xm:j<zs.length:=by simpa using g2
  have ha:x[j]?=some x[j]:=WR (by omega);have hb:y[j]?=some y[j]:=WR (by omega);obtain⟨va,a1,a2⟩:=v1.get ha;obtain⟨vb,b1,b2⟩:=v2.get hb;obtain⟨u,a3,a4⟩:=p1.get a1;obtain⟨w,b3,b4⟩:=p2.get b1;have eu:us.toArray[j]=u:=by
   have:=(List.getElem?_eq_some_iff.mp a3).2;simpa using this
  have ew:zs.toArray[j]=w:=by
   have:=(List.getElem?_eq_some_iff.mp b3).2;simpa using this
  rw[eu,ew];exact(ih _ _ _ _ _ _ _ a2 b2 a4 b4 (h1 j _ _ ha hb)).eq
 .rw[<-h2];have:us.toArray.size=x.length:=by simp;omega
  rw[this]
noncomputable def cE(K:PySem.W.Frag)(H:Hp)(r:List Addr):D->V->Prop
 |.aU,v=>v=.aU
 |.bl b,v=>v=.bl b
 |.int i,v=>v=.int i
 |.str l,v=>v=.str (aQ l)
 |.ref n,v=>∃a,v=.ref a/\r[n]?=some a
 |.tup ds,v=>∃a vs,v=.ref a/\dJ K H a vs/\aJ K H r ds vs
def RV.shape{d:D}{v:V}(h:RV X.K H r d v):cE X.K H r d v:=by
 cases d<;>simp only[RV]at h<;>simp only[cE]<;>first|exact h|exact h.1
def J8{a b:List Nat}:(aQ a==aQ b)=(a==b):=by
 by_cases e:a=b
 .subst e;simp
 .have e1:(aQ a==aQ b)=false:=beq_eq_false_iff_ne.mpr λz=>e (oW z);have e2:(a==b)=false:=beq_eq_false_iff_ne.mpr e;rw[e1,e2]
def ql{n:Nat}{A:Around}{x y:List D}{a b:Addr}{vs ws:List V}{k:Bool}(I:Inv X pins σ H s)(hu:A.units<cLine)(q1:eL X.K H a vs)(q2:eL X.K H b ws)(v1:aJ X.K H r x vs)(v2:aJ X.K H r y ws)(hab:a≠b)
  (ih:∀a b va vb u w k,RV X.K H r a va->RV X.K H r b vb->RelV va u->RelV vb w->Ev.iY h n a b=some k->wk A.in1 s u w k) (e:Ev.b9 (Ev.iY h n) x y=some k):wk A s (.ref a) (.ref b) k:=by
 obtain⟨us,p1,pX,_⟩:=I.list q1;obtain⟨zs,p2,pY,_⟩:=I.list q2;by_cases hl:x.length=y.length
 .obtain⟨e',h1,h2,h3⟩:=uO v1 v2 p1 p2 ih hl e;have hs:us.toArray.size=zs.toArray.size:=by simpa using h3
  have rc:=RcAt.lists pX.isList pY.isList hs hu h1;have ne:=RcNeAt.lists pX.isList pY.isList hs hu h1;rw[h2]at rc ne;exact⟨.of_refs hab rc,rc,ne⟩
 .have hk:=sZ hl e;subst hk;have hs:(us.toArray.size != zs.toArray.size)=true:=by
   have l1:=v1.length;have l2:=v2.length;have l3:=p1.length;have l4:=p2.length;simp only[iy,bne_iff_ne,ne_eq];omega
  exact⟨.of_refs hab (.lists_lengths pX.isList pY.isList hs hu),.lists_lengths pX.isList pY.isList hs hu,.lists_lengths pX.isList pY.isList hs hu⟩
def CS(I:Inv X pins σ H s)(hr:HR X.K H r h){n:Nat}{a:Addr}{ds:List D}(e:Ev.bx h n=some ds)(ha:r[n]?=some a):∃us:List Value,PlainL s.heap a us.toArray:=by
 obtain⟨a',vs,e1,e2,e3⟩:=hr.read e;rw[ha]at e1;cases e1;obtain⟨us,_,pl,_⟩:=I.list e2;exact⟨us,pl⟩
def CT(I:Inv X pins σ H s)(hr:HR X.K H r h):∀(n:Nat) (a b:D) (v:V) (k:Bool),RV X.K H r a v->RV X.K H r b v->Ev.iY h n a b=some k->k=true:=by
 intro n;induction n with
 |zero=>intro a b v k _ _ e;cases e
 |succ n ih=>
  have items:∀(x y:List D) (vs:List V) (k:Bool),aJ X.K H r x vs->aJ X.K H r y vs->Ev.b9 (Ev.iY h n) x y=some k->k=true:=by
   intro x;induction x with
   |nil=>
    intro y vs k h1 h2 e;simp only[aJ]at h1;subst h1;cases y with
    |nil=>cases e;rfl
    |cons _ _=>simp only[aJ]at h2;obtain⟨_,_,h2,_⟩:=h2;cases h2
   |cons d x Xn=>
    intro y vs k h1 h2 e;simp only[aJ]at h1;obtain⟨v,w,rfl,h3,h4⟩:=h1;cases y with
    |nil=>simp only[aJ]at h2;cases h2
    |cons d' y=>
     simp only[aJ]at h2;obtain⟨v',w',e2,h5,h6⟩:=h2;cases e2;simp only[Ev.b9,abv,V4]at e;obtain⟨p,e1,q,e2,e3⟩:=e;cases e3;rw[ih d d' v p h3 h5 e1,Xn y w q h4 h6 e2];rfl
  have lt:∀(a:Addr) (vs:List V) (i:Nat) (ds:List D),dJ X.K H a vs->r[i]?=some a->Ev.bx h i=some ds->False:=λa vs i ds h1 h2 h3=>by
   obtain⟨us,pl⟩:=CS I hr h3 h2;obtain⟨zs,_,pt,_⟩:=I.tuple h1;exact ne_of_list_tuple pl.isList pt rfl
  intro a b v k h1 h2 e;have s1:=h1.shape;have s2:=h2.shape;clear h1 h2;cases a with
  |aU=>simp only[cE]at s1;cases b with
   |aU=>cases e;rfl
   |ref m=>obtain⟨p,z,_⟩:=s2;rw[s1]at z;cases z
   |tup y=>obtain⟨p,_,z,_⟩:=s2;rw[s1]at z;cases z
   |_=>simp only[cE]at s2;rw[s1]at s2;cases s2
  |bl x=>simp only[cE]at s1;cases b with
   |bl y=>simp only[cE]at s2;rw[s1]at s2;cases s2;cases e;simp
   |ref m=>obtain⟨p,z,_⟩:=s2;rw[s1]at z;cases z
   |tup y=>obtain⟨p,_,z,_⟩:=s2;rw[s1]at z;cases z
   |_=>simp only[cE]at s2;rw[s1]at s2;cases s2
  |int x=>simp only[cE]at s1;cases b with
   |int y=>simp only[cE]at s2;rw[s1]at s2;cases s2;cases e;simp
   |ref m=>obtain⟨p,z,_⟩:=s2;rw[s1]at z;cases z
   |tup y=>obtain⟨p,_,z,_⟩:=s2;rw[s1]at z;cases z
   |_=>simp only[cE]at s2;rw[s1]at s2;cases s2
  |str x=>simp only[cE]at s1;cases b with
   |str y=>
    simp only[cE]at s2;rw[s1]at s2;have:x=y:=oW (by injection s2);subst this;cases e;simp
   |ref m=>obtain⟨p,z,_⟩:=s2;rw[s1]at z;cases z
   |tup y=>obtain⟨p,_,z,_⟩:=s2;rw[s1]at z;cases z
   |_=>simp only[cE]at s2;rw[s1]at s2;cases s2
  |tup x=>
   obtain⟨p,vs,rfl,z,w⟩:=s1;cases b with
   |tup y=>
    obtain⟨p',vs',z',z2,w2⟩:=s2;cases z';rw[I.nE z2 z]at w2;exact items x y vs k w w2 e
   |ref m=>
    obtain⟨p',z',z2⟩:=s2;cases z';obtain⟨ds,e1,_⟩:=Option.map_eq_some_iff.mp e;exact(lt _ _ _ _ z z2 e1).elim
   |_=>cases s2
  |ref i=>
   obtain⟨p,rfl,z⟩:=s1;cases b with
   |ref m=>
    obtain⟨p',z',z2⟩:=s2;cases z';replace e:Ev.kB h (Ev.iY h n) i m=some k:=e;unfold Ev.kB at e;split at e
    .simp only[gV]at e;obtain⟨_,_,e⟩:=e;exact e.symm
    .rename_i hne;split at e
     .rename_i x y g1 g2;exact absurd (hr.inj _ _ _ _ _ z z2 g1 g2) hne
     .rename_i x y g1 g2;obtain⟨p1,q1,HD,q2,_⟩:=hr.ob _ _ g1;obtain⟨p2,q3,HF,q4,_⟩:=hr.ob _ _ g2;rw[z]at q1;cases q1;rw[z2]at q3;cases q3;exact absurd rfl (oZ I q2 q4)
     .rename_i x y g1 g2;obtain⟨p1,q1,HD,q2,_⟩:=hr.ob _ _ g1;obtain⟨p2,q3,HF,q4,_⟩:=hr.ob _ _ g2;rw[z]at q1;cases q1;rw[z2]at q3;cases q3;exact absurd rfl (oZ I q4 q2)
     .cases e
   |tup y=>
    obtain⟨p',vs',z',z2,w2⟩:=s2;cases z';obtain⟨ds,e1,_⟩:=Option.map_eq_some_iff.mp e;exact(lt _ _ _ _ z2 z e1).elim
   |_=>cases s2
def J9{n:Nat}{A:Around}{x y:List D}{a b:Addr}{vs ws:List V}{k:Bool}(I:Inv X pins σ H s)(hr:HR X.K H r h)(hu:A.units<cLine)(q1:dJ X.K H a vs)(q2:dJ X.K H b ws)(v1:aJ X.K H r x vs)(v2:aJ X.K H r y ws)
  (ih:∀a b va vb u w k,RV X.K H r a va->RV X.K H r b vb->RelV va u->RelV vb w->Ev.iY h n a b=some k->wk A.in1 s u w k) (e:Ev.b9 (Ev.iY h n) x y=some k):wk A s (.ref a) (.ref b) k:=by
 obtain⟨us,p1,pX,_⟩:=I.tuple q1;obtain⟨zs,p2,pY,_⟩:=I.tuple q2;have l1:=v1.length;have l2:=v2.length;have l3:=p1.length;have l4:=p2.length;have both:RcAt A s (.ref a) (.ref b) k/\RcNeAt A s (.ref a) (.ref b) (!k):=by
  by_cases hl:x.length=y.length
  .obtain⟨e',h1,h2,h3⟩:=uO v1 v2 p1 p2 ih hl e;have rc:=RcAt.tuples pX pY hu h1;have ne:=RcNeAt.tuples pX pY hu h1;have hs:us.toArray.size=zs.toArray.size:=by simpa using h3
   have hb:((List.range (min us.toArray.size zs.toArray.size)).all e'&&us.toArray.size==zs.toArray.size)=k:=by
    rw[<-hs,Nat.min_self,h2];simp
   rw[hb]at rc ne;exact⟨rc,ne⟩
  .have hk:=sZ hl e;subst hk;have hcl:∃e':Nat->Bool,∀j (h1:j<us.toArray.size) (h2:j<zs.toArray.size),EqAt A.in1 s us.toArray[j] zs.toArray[j] (e' j):=by
    obtain⟨e',h1⟩:=zj e;refine⟨e',λj g1 g2=>?_⟩;have Xl:j<us.length:=by simpa using g1
    have Xm:j<zs.length:=by simpa using g2
    have ha:x[j]?=some x[j]:=WR (by omega);have hb:y[j]?=some y[j]:=WR (by omega);obtain⟨va,a1,a2⟩:=v1.get ha;obtain⟨vb,b1,b2⟩:=v2.get hb;obtain⟨u,a3,a4⟩:=p1.get a1;obtain⟨w,b3,b4⟩:=p2.get b1;have eu:us.toArray[j]=u:=by
     have:=(List.getElem?_eq_some_iff.mp a3).2;simpa using this
    have ew:zs.toArray[j]=w:=by
     have:=(List.getElem?_eq_some_iff.mp b3).2;simpa using this
    rw[eu,ew];exact(ih _ _ _ _ _ _ _ a2 b2 a4 b4 (h1 j _ _ ha hb)).eq
   obtain⟨e',h1⟩:=hcl;have rc:=RcAt.tuples pX pY hu h1;have ne:=RcNeAt.tuples pX pY hu h1;have hs:(us.toArray.size==zs.toArray.size)=false:=by
    simp only[iy,beq_eq_false_iff_ne,ne_eq];omega
   rw[hs,Bool.and_false]at rc ne;exact⟨rc,ne⟩
 by_cases hab:a=b
 .subst hab;rw[I.nE q2 q1]at v2;have hk:k=true:=CT I hr (n+1) (.tup x) (.tup y) (.ref a) k ⟨a,vs,rfl,q1,v1⟩ ⟨a,vs,rfl,q1,v2⟩ e;subst hk;exact⟨.same _,both.1,both.2⟩
 .exact⟨.of_refs hab both.1,both.1,both.2⟩
end
section
variable{X:Cx}{pins:List (Addr×Obj)}{σ:L2.St}{H:Hp}{s:Shared}{r:List Addr}{h:Hh}
def HG(I:Inv X pins σ H s)(hr:HR X.K H r h):∀(n:Nat) (A:Around) (a b:D) (va vb:V) (u w:Value) (k:Bool),A.units+n<cLine->RV X.K H r a va->RV X.K H r b vb->RelV va u->RelV vb w->Ev.iY h n a b=some k->wk A s u w k:=by
 intro n;induction n with
 |zero=>intro A a b va vb u w k _ _ _ _ _ e;cases e
 |succ n ih=>
  intro A a b va vb u w k hu h1 h2 r1 r2 e;have bS:A.units<cLine:=by omega
  have ih':∀a b va vb u w k,RV X.K H r a va->RV X.K H r b vb->RelV va u->RelV vb w->Ev.iY h n a b=some k->wk A.in1 s u w k:=λa b va vb u w k=>ih A.in1 a b va vb u w k (by show A.units+1+n<cLine;omega);have s1:=h1.shape;have s2:=h2.shape;have lst:∀{i:Nat} {v:V} {u:Value} {ds:List D},cE X.K H r (.ref i) v->RelV v u->Ev.bx h i=some ds->∃p us,u=.ref p/\PlainL s.heap p (List.toArray us):=λ{i v u ds} hv ru el=>by
   obtain⟨p,rfl,z⟩:=hv;cases ru;obtain⟨us,pl⟩:=CS I hr el z;exact⟨p,us,rfl,pl⟩
  have tup:∀{ds:List D} {v:V} {u:Value},cE X.K H r (.tup ds) v->RelV v u->∃p us,u=.ref p/\s.heap.IsTuple p (List.toArray us):=λ{ds v u} hv ru=>by
   obtain⟨p,vs,rfl,z,_⟩:=hv;cases ru;obtain⟨us,_,pt,_⟩:=I.tuple z;exact⟨p,us,rfl,pt⟩
  cases a with
  |aU=>
   simp only[cE]at s1;subst s1;cases r1;cases b with
   |aU=>simp only[cE]at s2;subst s2;cases r2;cases e;exact⟨.same _,.none_none,.none_none⟩
   |bl y=>simp only[cE]at s2;subst s2;cases r2;cases e;exact⟨.none_bool _,.none_bool _,.none_bool _⟩
   |int y=>simp only[cE]at s2;subst s2;obtain⟨t,rfl⟩:=r2;cases e;exact⟨.none_int _ _,.none_int _ _,.none_int _ _⟩
   |str y=>simp only[cE]at s2;subst s2;obtain⟨t,rfl⟩:=r2;cases e;exact⟨.none_str _ _,.none_str _ _,.none_str _ _⟩
   |tup y=>obtain⟨p,us,rfl,pt⟩:=tup s2 r2;cases e;exact⟨.none_tuple pt bS,.none_tuple pt bS,.none_tuple pt bS⟩
   |ref m=>
    obtain⟨ds,e1,rfl⟩:=Option.map_eq_some_iff.mp e;obtain⟨p,us,rfl,pl⟩:=lst s2 r2 e1;exact⟨.none_list pl.isList bS,.none_list pl.isList bS,.none_list pl.isList bS⟩
  |bl x=>
   simp only[cE]at s1;subst s1;cases r1;cases b with
   |aU=>simp only[cE]at s2;subst s2;cases r2;cases e;exact⟨.bool_none _,.bool_none _,.bool_none _⟩
   |bl y=>simp only[cE]at s2;subst s2;cases r2;cases e;exact⟨.bool_bool _ _,.bool_bool _ _,.bool_bool _ _⟩
   |int y=>simp only[cE]at s2;subst s2;obtain⟨t,rfl⟩:=r2;cases e;exact⟨.bool_int _ _ _,.bool_int _ _ _,.bool_int _ _ _⟩
   |str y=>simp only[cE]at s2;subst s2;obtain⟨t,rfl⟩:=r2;cases e;exact⟨.bool_str _ _ _,.bool_str _ _ _,.bool_str _ _ _⟩
   |tup y=>obtain⟨p,us,rfl,pt⟩:=tup s2 r2;cases e;exact⟨.bool_tuple _ pt bS,.bool_tuple _ pt bS,.bool_tuple _ pt bS⟩
   |ref m=>
    obtain⟨ds,e1,rfl⟩:=Option.map_eq_some_iff.mp e;obtain⟨p,us,rfl,pl⟩:=lst s2 r2 e1;exact⟨.bool_list _ pl.isList bS,.bool_list _ pl.isList bS,.bool_list _ pl.isList bS⟩
  |int x=>
   simp only[cE]at s1;subst s1;obtain⟨t0,rfl⟩:=r1;cases b with
   |aU=>simp only[cE]at s2;subst s2;cases r2;cases e;exact⟨.int_none _ _,.int_none _ _,.int_none _ _⟩
   |bl y=>simp only[cE]at s2;subst s2;cases r2;cases e;exact⟨.int_bool _ _ _,.int_bool _ _ _,.int_bool _ _ _⟩
   |int y=>simp only[cE]at s2;subst s2;obtain⟨t,rfl⟩:=r2;cases e;exact⟨.int_int _ _ _ _,.int_int _ _ _ _,.int_int _ _ _ _⟩
   |str y=>simp only[cE]at s2;subst s2;obtain⟨t,rfl⟩:=r2;cases e;exact⟨.int_str _ _ _ _,.int_str _ _ _ _,.int_str _ _ _ _⟩
   |tup y=>obtain⟨p,us,rfl,pt⟩:=tup s2 r2;cases e;exact⟨.int_tuple _ _ pt bS,.int_tuple _ _ pt bS,.int_tuple _ _ pt bS⟩
   |ref m=>
    obtain⟨ds,e1,rfl⟩:=Option.map_eq_some_iff.mp e;obtain⟨p,us,rfl,pl⟩:=lst s2 r2 e1;exact⟨.int_list _ _ pl.isList bS,.int_list _ _ pl.isList bS,.int_list _ _ pl.isList bS⟩
  |str x=>
   simp only[cE]at s1;subst s1;obtain⟨t0,rfl⟩:=r1;cases b with
   |aU=>simp only[cE]at s2;subst s2;cases r2;cases e;exact⟨.str_none _ _,.str_none _ _,.str_none _ _⟩
   |bl y=>simp only[cE]at s2;subst s2;cases r2;cases e;exact⟨.str_bool _ _ _,.str_bool _ _ _,.str_bool _ _ _⟩
   |int y=>simp only[cE]at s2;subst s2;obtain⟨t,rfl⟩:=r2;cases e;exact⟨.str_int _ _ _ _,.str_int _ _ _ _,.str_int _ _ _ _⟩
   |str y=>
    simp only[cE]at s2;subst s2;obtain⟨t,rfl⟩:=r2;cases e;rw[<-J8];exact⟨.str_str _ _ _ _,.str_str _ _ _ _,.str_str _ _ _ _⟩
   |tup y=>obtain⟨p,us,rfl,pt⟩:=tup s2 r2;cases e;exact⟨.str_tuple _ _ pt bS,.str_tuple _ _ pt bS,.str_tuple _ _ pt bS⟩
   |ref m=>
    obtain⟨ds,e1,rfl⟩:=Option.map_eq_some_iff.mp e;obtain⟨p,us,rfl,pl⟩:=lst s2 r2 e1;exact⟨.str_list _ _ pl.isList bS,.str_list _ _ pl.isList bS,.str_list _ _ pl.isList bS⟩
  |tup x=>
   cases b with
   |tup y=>
    obtain⟨p,vs,rfl,z,w1⟩:=s1;obtain⟨p',vs',rfl,z',w2⟩:=s2;cases r1;cases r2;exact J9 I hr bS z z' w1 w2 ih' e
   |aU=>obtain⟨p,us,rfl,pt⟩:=tup s1 r1;simp only[cE]at s2;subst s2;cases r2;cases e;exact⟨.tuple_none pt bS,.tuple_none pt bS,.tuple_none pt bS⟩
   |bl y=>obtain⟨p,us,rfl,pt⟩:=tup s1 r1;simp only[cE]at s2;subst s2;cases r2;cases e;exact⟨.tuple_bool _ pt bS,.tuple_bool _ pt bS,.tuple_bool _ pt bS⟩
   |int y=>obtain⟨p,us,rfl,pt⟩:=tup s1 r1;simp only[cE]at s2;subst s2;obtain⟨t,rfl⟩:=r2;cases e;exact⟨.tuple_int _ _ pt bS,.tuple_int _ _ pt bS,.tuple_int _ _ pt bS⟩
   |str y=>obtain⟨p,us,rfl,pt⟩:=tup s1 r1;simp only[cE]at s2;subst s2;obtain⟨t,rfl⟩:=r2;cases e;exact⟨.tuple_str _ _ pt bS,.tuple_str _ _ pt bS,.tuple_str _ _ pt bS⟩
   |ref m=>
    obtain⟨p,us,rfl,pt⟩:=tup s1 r1;obtain⟨ds,e1,rfl⟩:=Option.map_eq_some_iff.mp e;obtain⟨p',us',rfl,pl⟩:=lst s2 r2 e1;exact⟨.tuple_list pt pl.isList bS,.tuple_list pt pl.isList bS,.tuple_list pt pl.isList bS⟩
  |ref i=>
   cases b with
   |ref m=>
    replace e:Ev.kB h (Ev.iY h n) i m=some k:=e;unfold Ev.kB at e;split at e
    .rename_i Xo;subst Xo;simp only[gV]at e;obtain⟨ds,e1,rfl⟩:=e;obtain⟨p,us,rfl,pl⟩:=lst s1 r1 e1;obtain⟨p0,rfl,z⟩:=s1;obtain⟨p1,rfl,z'⟩:=s2;rw[z]at z';cases z';cases r1;cases r2;have q:(List.range (List.toArray us).size).all (λ_=>true)=true:=by simp
     have rc:=RcAt.lists (A:=A) (e:=λ_=>true) pl.isList pl.isList rfl bS λj _ _=>EqAt.same _;have ne:=RcNeAt.lists (A:=A) (e:=λ_=>true) pl.isList pl.isList rfl bS λj _ _=>EqAt.same _;rw[q]at rc ne;exact⟨.same _,rc,ne⟩
    .rename_i hne;obtain⟨p0,rfl,z⟩:=s1;obtain⟨p1,rfl,z'⟩:=s2;cases r1;cases r2;split at e
     .rename_i x y g1 g2;obtain⟨q0,q1,HD,q2,q3⟩:=hr.ob _ _ g1;obtain⟨q4,q5,HF,q6,q7⟩:=hr.ob _ _ g2;rw[z]at q1;cases q1;rw[z']at q5;cases q5;exact ql I bS (.of q2) (.of q6) q3 q7 (λw=>hne (hr.inj _ _ _ _ _ z (by rw[w];exact z') g1 g2)) ih' e
     .rename_i x y g1 g2;obtain⟨q0,q1,HD,q2,q3⟩:=hr.ob _ _ g1;obtain⟨q4,q5,HF,q6,q7⟩:=hr.ob _ _ g2;rw[z]at q1;cases q1;rw[z']at q5;cases q5;exact ql I bS (HH q2) (.of q6) q3 q7 (oZ I q2 q6) ih' e
     .rename_i x y g1 g2;obtain⟨q0,q1,HD,q2,q3⟩:=hr.ob _ _ g1;obtain⟨q4,q5,HF,q6,q7⟩:=hr.ob _ _ g2;rw[z]at q1;cases q1;rw[z']at q5;cases q5;exact ql I bS (.of q2) (HH q6) q3 q7 (oZ I q6 q2).symm ih' e
     .cases e
   |aU=>obtain⟨ds,e1,rfl⟩:=Option.map_eq_some_iff.mp e;obtain⟨p,us,rfl,pl⟩:=lst s1 r1 e1;simp only[cE]at s2;subst s2;cases r2;exact⟨.list_none pl.isList bS,.list_none pl.isList bS,.list_none pl.isList bS⟩
   |bl y=>obtain⟨ds,e1,rfl⟩:=Option.map_eq_some_iff.mp e;obtain⟨p,us,rfl,pl⟩:=lst s1 r1 e1;simp only[cE]at s2;subst s2;cases r2;exact⟨.list_bool _ pl.isList bS,.list_bool _ pl.isList bS,.list_bool _ pl.isList bS⟩
   |int y=>obtain⟨ds,e1,rfl⟩:=Option.map_eq_some_iff.mp e;obtain⟨p,us,rfl,pl⟩:=lst s1 r1 e1;simp only[cE]at s2;subst s2;obtain⟨t,rfl⟩:=r2;exact⟨.list_int _ _ pl.isList bS,.list_int _ _ pl.isList bS,.list_int _ _ pl.isList bS⟩
   |str y=>obtain⟨ds,e1,rfl⟩:=Option.map_eq_some_iff.mp e;obtain⟨p,us,rfl,pl⟩:=lst s1 r1 e1;simp only[cE]at s2;subst s2;obtain⟨t,rfl⟩:=r2;exact⟨.list_str _ _ pl.isList bS,.list_str _ _ pl.isList bS,.list_str _ _ pl.isList bS⟩
   |tup y=>
    obtain⟨ds,e1,rfl⟩:=Option.map_eq_some_iff.mp e;obtain⟨p,us,rfl,pl⟩:=lst s1 r1 e1;obtain⟨p',us',rfl,pt⟩:=tup s2 r2;exact⟨.list_tuple pl.isList pt bS,.list_tuple pl.isList pt bS,.list_tuple pl.isList pt bS⟩
where
 HH {K:PySem.W.Frag} {H:Hp} {a:Addr} {vs:List V} (q:AR K H a vs):eL K H a vs:=by
  rcases q with ⟨ob,e2⟩|e2
  .exact .inl (.inr ⟨ob,e2⟩)
  .exact .inr e2
end
theorem Good.units{G:Tb}{n:Nat}{sc:Scope}{N:List Str}{df:Bool}{X:Cx}(g:Good G n sc N df X):X.A.units+1+Ev.deep<cLine:=by
 have:=g.room.un;have:Ev.deep=20:=rfl;omega
section
variable{G:Tb}{n:Nat}{sc:Scope}{N:List Str}{df:Bool}{X:Cx}
def zk{pins:List (Addr×Obj)}{σ:L2.St}{H:Hp}{s:Shared}{Q:VK}{r:List Addr}{h:Hh}{k:Bool}(I:Inv X pins σ H s)(hr:HR X.K H r h)(q:Res X.K r H h (.bl k) Q):EP X pins σ Q (.bool k) s:=
 ⟨.bl k,H,I,rfl,q.here rfl hr⟩
def HJ(g:Good G n sc N df X):ek X (compareOp .Eq) (jH X.K (jt .eq)):=by
 intro pins s σ H x y v u Q I rx ry q;obtain⟨r,h,a,b,d,h',hr,v1,v2,e,q⟩:=q;obtain⟨k,e1,rfl,rfl⟩:=oX e;have:=g.units;exact(HG I hr Ev.deep X.A a b x y v u k (by omega) v1 v2 rx ry e1).rc _ _ _ _ (zk I hr q)
def RJ(g:Good G n sc N df X):ek X (compareOp .NotEq) (jH X.K (jt .ne)):=by
 intro pins s σ H x y v u Q I rx ry q;obtain⟨r,h,a,b,d,h',hr,v1,v2,e,q⟩:=q;obtain⟨k,e1,rfl,rfl⟩:=oX e;have:=g.units
 delta Ev.cop at e1;dsimp only at e1;simp only[gV]at e1
 obtain⟨k',e2,rfl⟩:=e1;exact(HG I hr Ev.deep X.A a b x y v u k' (by omega) v1 v2 rx ry e2).ne _ _ _ _ (zk I hr q)
def CU{op:CmpOp}{o:bq}{p:Int->Int->Bool}(ho:ek X (compareOp op) (vJ λi j=>.bl (p i j)))(hc:∀a b h k,Ev.cop o a b h=some k->∃i j,a=.int i/\b=.int j/\k=p i j):ek X (compareOp op) (jH X.K (jt o)):=by
 intro pins s σ H x y v u Q I rx ry q;obtain⟨r,h,a,b,d,h',hr,v1,v2,e,q⟩:=q;obtain⟨k,e1,rfl,rfl⟩:=oX e;obtain⟨i,j,rfl,rfl,rfl⟩:=hc _ _ _ _ e1;exact ho pins s σ H x y v u Q I rx ry ⟨i,j,v1,v2,q.here rfl hr⟩
def HK:ek X (compareOp .Lt) (jH X.K (jt .lt)):=CU Rg λa b h k e=>by
 cases a<;>cases b <;> (delta Ev.cop at e;dsimp only at e)<;>first | (cases e;exact⟨_,_,rfl,rfl,rfl⟩)|cases e
def HL:ek X (compareOp .Gt) (jH X.K (jt .gt)):=CU Rh λa b h k e=>by
 cases a<;>cases b <;> (delta Ev.cop at e;dsimp only at e)<;>first | (cases e;exact⟨_,_,rfl,rfl,rfl⟩)|cases e
end
section
variable{n:Nat}{X:Cx}
def tu(a b:List Nat):aQ a++aQ b=aQ (a++b):=by
 show Str.append (aQ a) (aQ b)=_;simp[Str.append,aQ]
def Ka{pins:List (Addr×Obj)}{σ:L2.St}{H:Hp}{s:Shared}{Q:Value->Shared->Prop}{E:Value->Shared->Prop}(I:Inv X pins σ H s){a b:Addr}{ys:List V}(h1:dJ X.K H a [])(h2:dJ X.K H b ys)(q:Q (.ref b) s):wpAny (model X.prog X.w) X.A (binaryOp .Add (.ref a) (.ref b)) Q E s:=by
 obtain⟨us,p1,Xp,_⟩:=I.tuple h1;obtain⟨zs,p2,Xq,_⟩:=I.tuple h2;cases p1;obtain⟨⟨cls,dd,data,sl⟩,ho,hc,n,hd⟩:=id Xp;obtain⟨⟨Vp,dd2,data2,sl2⟩,ho2,hc2,n2,hd2⟩:=id Xq;simp only at hc hd hc2 hd2;subst hc hd hc2 hd2;exact concat_meets ⟨_,ho,rfl⟩ ⟨_,ho2,rfl⟩ acp seq_tuple_add abQ abJ (abG _ _)
  (tuple_addW0 a b _ _ n n2 dd dd2 sl sl2 (by simp)) ⟨ho,ho2,q⟩
def ND:ek X (binaryOp .Add) (jH X.K (Ev.bD .add)):=by
 intro pins s σ H x y v u Q I rx ry q;obtain⟨r,h,a,b,d,h',hr,v1,v2,e,q⟩:=q;have s1:=v1.shape;have s2:=v2.shape;cases a with
 |int i=>cases b with
  |int j=>cases e;exact Mq pins s σ H x y v u Q I rx ry ⟨i,j,s1,s2,q.here rfl hr⟩
  |_=>cases e
 |str i=>cases b with
  |str j=>
   delta Ev.bD at e;dsimp only at e
   split at e
   .rename_i hz;cases e;rw[jG]at hz;refine AD pins s σ H x y v u Q I rx ry ⟨aQ i,aQ j,s1,s2,by rw[cO,cO];exact hz,?_⟩;rw[tu];exact q.here ⟨rfl,by rw[PX];exact hz⟩ hr
   .cases e
  |_=>cases e
 |tup i=>cases b with
  |tup j=>
   delta Ev.bD at e;dsimp only at e
   split at e
   .rename_i hz;cases e;rw[jG]at hz;obtain⟨pa,vs,rfl,z1,w1⟩:=s1;obtain⟨pb,ws,rfl,z2,w2⟩:=s2;have l1:=w1.length;have l2:=w2.length;cases vs with
    |nil=>
     cases rx;cases ry;refine Ka I z1 z2 ⟨.ref pb,H,I,rfl,q.here ?_ hr⟩;have:i=[]:=by cases i with|nil=>rfl|cons _ _=>simp at l1
     subst this;exact⟨pb,ws,rfl,z2,by simpa using w2⟩
    |cons v0 vs=>
     refine JD pins s σ H _ _ v u Q I rx ry ⟨pa,pb,v0 :: vs,ws,rfl,rfl,z1,z2,by simp,by rw[l1,l2];exact hz,λhw=>?_,λhw p hp=>?_⟩
     .subst hw;have:j=[]:=by cases j with|nil=>rfl|cons _ _=>simp at l2
      subst this;exact q.here ⟨pa,v0 :: vs,rfl,z1,by simpa using w1⟩ hr
     .exact q.tup (w1.append w2) hr hp
   .cases e
  |_=>cases e
 |ref i=>cases b with
  |ref j=>
   delta Ev.bD at e;dsimp only at e
   split at e
   .rename_i ds es e1 e2;obtain⟨pa,rfl,z1⟩:=s1;obtain⟨pb,rfl,z2⟩:=s2;cases rx;cases ry;obtain⟨p1,g1,vs,g2,g3⟩:=hr.ob _ _ e1;obtain⟨p2,k1,ws,k2,k3⟩:=hr.ob _ _ e2;rw[z1]at g1;cases g1;rw[z2]at k1;cases k1;obtain⟨hz,q2⟩:=q.lst e (g3.append k3) hr;exact Cs pins s σ H (.ref pa) (.ref pb) _ _ Q I rfl rfl ⟨_,_,vs,ws,rfl,rfl,g2,k2,by rw[PX]at hz;exact hz,q2⟩
   .cases e
  |_=>cases e
 |_=>cases b<;>cases e
def NF:ek X (binaryOp .Sub) (jH X.K (Ev.bD .sub)):=by
 intro pins s σ H x y v u Q I rx ry q;obtain⟨r,h,a,b,d,h',hr,v1,v2,e,q⟩:=q;cases a with
 |int i=>cases b with
  |int j=>cases e;exact Mr pins s σ H x y v u Q I rx ry ⟨i,j,v1,v2,q.here rfl hr⟩
  |_=>cases e
 |_=>cases b<;>cases e
def Kc:ek X (binaryOp .FloorDiv) (jH X.K (Ev.bD .fdiv)):=by
 intro pins s σ H x y v u Q I rx ry q;obtain⟨r,h,a,b,d,h',hr,v1,v2,e,q⟩:=q;cases a with
 |int i=>cases b with
  |int j=>
   delta Ev.bD at e;dsimp only at e
   split at e
   .rename_i hz;cases e;exact Js pins s σ H x y v u Q I rx ry ⟨i,j,v1,v2,hz,q.here rfl hr⟩
   .cases e
  |_=>cases e
 |_=>cases b<;>cases e
def NG:ek X (binaryOp .Mod) (jH X.K (Ev.bD .mod)):=by
 intro pins s σ H x y v u Q I rx ry q;obtain⟨r,h,a,b,d,h',hr,v1,v2,e,q⟩:=q;cases a with
 |int i=>cases b with
  |int j=>
   delta Ev.bD at e;dsimp only at e
   split at e
   .rename_i hz;cases e;exact Mt pins s σ H x y v u Q I rx ry ⟨i,j,v1,v2,hz,q.here rfl hr⟩
   .cases e
  |_=>cases e
 |_=>cases b<;>cases e
end
section
variable{X:Cx}
def NH(n:Nat)(i:Int):Ev.cL n i=L2.cL n i:=rfl
def NI{α:Type}(xs:List α)(i:Int):Ev.bE xs i=L2.bE xs i:=rfl
theorem aJ.bE{K:PySem.W.Frag}{H:Hp}{r:List Addr}{ds:List D}{vs:List V}{i:Int}{d:D}(w:aJ K H r ds vs)(e:Ev.bE ds i=some d):∃v,L2.bE vs i=some v/\RV K H r d v:=by
 unfold Ev.bE at e;obtain⟨j,e1,e2⟩:=Option.bind_eq_some_iff.mp e;obtain⟨v,e3,e4⟩:=w.get e2;exact⟨v,by unfold L2.bE;rw[w.length,<-NH,e1];exact e3,e4⟩
def RK:yW X (jH X.K M7):=by
 intro value slice pins s σ H x y v u Q I rx ry q hs;obtain⟨r,h,a,b,d,h',hr,v1,v2,e,q⟩:=q;obtain⟨e,rfl⟩:=Ev.aM e;cases b with
 |int i=>
  have s2:=v2.shape;cases a with
  |tup ds=>
   obtain⟨p,vs,rfl,z,w⟩:=v1.shape;obtain⟨v',g1,g2⟩:=w.bE e;exact MC value slice pins s σ H _ y v u Q I rx ry ⟨p,vs,i,v',rfl,s2,z,g1,q.here g2 hr⟩ hs
  |str l=>
   simp only[RV]at v1;obtain⟨rfl,hl⟩:=v1;simp only[Ev.cY,gV]at e;obtain⟨c,e1,rfl⟩:=e;exact MD value slice pins s σ H _ y v u Q I rx ry ⟨aQ l,i,c,rfl,s2,by rw[cO];exact hl,by simpa[aQ,NI]using e1,q.here ⟨rfl,by show 1<=sizeLine;decide⟩ hr⟩ hs
  |ref m=>
   simp only[Ev.cY,V4]at e;obtain⟨ds,e1,e2⟩:=e;obtain⟨p,rfl,z⟩:=v1.shape;obtain⟨p',vs,z',q1,w⟩:=hr.read e1;rw[z]at z';cases z';obtain⟨v',g1,g2⟩:=w.bE e2;exact JF value slice pins s σ H _ y v u Q I rx ry ⟨p,vs,i,v',rfl,s2,q1,g1,q.here g2 hr⟩ hs
  |_=>cases e
 |_=>cases a<;>cases e
theorem aJ.cut{K:PySem.W.Frag}{H:Hp}{r:List Addr}{ds:List D}{vs:List V}(w:aJ K H r ds vs)(lo hi:Option Int):aJ K H r (Ev.cut ds lo hi) (nI vs lo hi):=by
 unfold Ev.cut nI;rw[w.length];exact(w.drop _).take _
def uP{α:Type}(xs:List α)(lo hi:Option Int)(h:Ev.aP xs.length 0 lo=0/\Ev.aP xs.length xs.length hi=xs.length):Ev.cut xs lo hi=xs:=by
 unfold Ev.cut;rw[h.1,h.2];simp
def Kd{α:Type}(xs:List α)(lo hi:Option Int):(Ev.cut xs lo hi).length<=xs.length:=by
 unfold Ev.cut;rw[aa4,acr];omega
def u9{prog:Program}{w:World}{A:Around}{E:Value->Shared->Prop}{s:Shared}{t sl:Addr}{items:Array Value}{vl vu:Value}{lo hi:Option Int}{Q:Value->Shared->Prop}(ht:IsTup s.heap t items)(hs:s.heap.IsSliceOf sl vl vu .none)(pl:IsPart vl lo)(pu:IsPart vu hi)
  (hw:HT.aP items.size 0 lo=0/\HT.aP items.size items.size hi=items.size) (h:Q (.ref t) s):wpAny (model prog w) A (getItem (.ref t) (.ref sl)) Q E s:=by
 obtain⟨os,hos,hcs,hds⟩:=id hs;have MA:s.TypeIs (.ref sl) "slice" :=⟨os,hos,hcs⟩
 unfold getItem;try with_reducible refine aaM ?_
 first|refine eZ (uZ ?_)|skip
 refine eZ (wpAny_sequenceKey ht.typeIs (by decide) ?_);refine eZ (abi (name:=Str.ofString "__getitem__") ht.typeIs aaR
  (abg aaR ht.typeIs entry_tuple_getitem ?_ (args_tuple_getitem _ _)))
 show wpAny _ _ (Builtin.Tuple.tupleItemsOf (.ref t) >>= _) _ _ s;refine eZ (tupleItemsOf_ ht ?_);refine eZ (abz MA ?_);rw[mD (by decide)];refine eZ (HT.ko hs pl pu ?_);have hyes:(((HT.aP items.size 0 lo:Nat):Int)==0&&(1:Int)==1&&(HT.aP items.size items.size hi - HT.aP items.size 0 lo)==items.size)=true:=by
  rw[hw.1,hw.2];simp
 show wpAny _ _ (if (((HT.aP items.size 0 lo:Nat):Int)==0&&(1:Int)==1&&(HT.aP items.size items.size hi - HT.aP items.size 0 lo)==items.size)=true then _ else _) _ _ s;rw[mD hyes];refine eZ (m:=Builtin.Tuple.tupleIsExact (.ref t)) (eZ (abz ht.typeIs (uZ ?_)));show wpAny _ _ (if ((Value.type "tuple" ==Value.type "tuple")=true)then _ else _) _ _ s;rw[mD (by decide)];exact eZ (acf (eZ (uZ (uZ ⟨_,rfl,uZ h⟩))))
def CV(lo hi:Option Int)(n:Nat):Builtin.Str.strSliceIndices lo hi 1 n=(List.range (Ev.aP n n hi - Ev.aP n 0 lo)).map (λk=>Ev.aP n 0 lo+k):=by
 have NJ:∀o:Option Int,((match o with|none=>(0:Int)|some i=>max 0 (min (if i<0 then i+(n:Int)else i) (n:Int))))=((Ev.aP n 0 o:Nat):Int):=λo=>by
  cases o with
  |none=>rfl
  |some i=>simp only[Ev.aP];split<;>omega
 have NK:∀o:Option Int,((match o with|none=>(n:Int)|some i=>max 0 (min (if i<0 then i+(n:Int)else i) (n:Int))))=((Ev.aP n n o:Nat):Int):=λo=>by
  cases o with
  |none=>rfl
  |some i=>simp only[Ev.aP];split<;>omega
 have e:Builtin.Str.strSliceIndices lo hi 1 n=sliceRange (match lo with|none=>(0:Int)|some i=>max 0 (min (if i<0 then i+(n:Int)else i) (n:Int))) (match hi with|none=>(n:Int)|some i=>max 0 (min (if i<0 then i+(n:Int)else i) (n:Int))) 1:=by
  unfold Builtin.Str.strSliceIndices;cases lo<;>cases hi<;>simp
 rw[e,NJ,NK,sliceRange_one]
def NL(l:List Nat)(lo hi:Option Int):((Builtin.Str.strSliceIndices lo hi 1 (aQ l).length).filterMap ((aQ l).cps[·]?)).toArray=(Ev.cut l lo hi).toArray:=by
 rw[cO,CV,pick_run];simp[aQ,Ev.cut]
def NN:lT X (MP X.K):=by
 intro pins s σ H x v vl vu lo hi sl Q I rx hs pl pu q;obtain⟨r,h,a,d,h',hr,v1,e,q⟩:=q;cases a with
 |tup ds=>
  cases e;obtain⟨p,vs,rfl,z,w⟩:=v1.shape;by_cases hw:HT.aP vs.length 0 lo=0/\HT.aP vs.length vs.length hi=vs.length
  .cases rx;obtain⟨us,pv,pt,hz⟩:=I.tuple z;have hl:=pv.length;have Xr:Ev.aP ds.length 0 lo=0/\Ev.aP ds.length ds.length hi=ds.length:=by rw[<-w.length];exact hw
   refine⟨"tuple",_,PyProof.Rows.slot_tuple_getitem.lookup,pt.typeIs,?_⟩;refine u9 pt hs pl pu (by rw[iy,<-hl];exact hw) ⟨.ref p,H,I,rfl,q.here ?_ hr⟩;rw[uP ds lo hi Xr];exact⟨p,vs,rfl,z,w⟩
  .exact MB pins s σ H _ v vl vu lo hi sl Q I rx hs pl pu ⟨p,vs,rfl,z,hw,λp' hp=>q.tup (w.cut lo hi) hr hp⟩
 |str l=>
  simp only[RV]at v1;obtain⟨rfl,hl⟩:=v1;obtain⟨t,rfl⟩:=rx;cases e;refine⟨"str",_,PySem.F.slot_str_getitem.lookup,typeIs_str s _ t,?_⟩;have part:∀{v:Value} {o:Option Int},IsPart v o->∃p:Option (Int×Tok),v=partValue p/\p.map (·.1)=o:=λ{v o} hp=>by
   cases hp with
   |none=>exact⟨none,rfl,rfl⟩
   |int i t=>exact⟨some (i,t),rfl,rfl⟩
  obtain⟨l1,e1,e2⟩:=part pl;obtain⟨u1,e3,e4⟩:=part pu;subst e1 e3;obtain⟨os,hos,hcs,hds⟩:=hs;refine wpAny_getItem_str_slice (l:=l1) (u:=u1) (st:=none) ⟨os,hos,hcs,hds⟩ rfl ?_;have HM:((slicePicked (aQ l) l1 u1 none).filterMap ((aQ l).cps[·]?)).toArray=(Ev.cut l lo hi).toArray:=by
   show((Builtin.Str.strSliceIndices (l1.map (·.1)) (u1.map (·.1)) 1 (aQ l).length).filterMap ((aQ l).cps[·]?)).toArray=_;rw[e2,e4];exact NL l lo hi
  have hcl:=Kd l lo hi;unfold sliceMade;refine post_val_or_made (λ_=>?_) λt' k=>?_
  .rw[HM];show(Ev.cut l lo hi).toArray.size<=sizeLine;simp only[iy];omega
  .have hres:(if (((none:Option (Int×Tok)).map (·.1)).getD 1==1&&(slicePicked (aQ l) l1 u1 none).length==(aQ l).length)=true then aQ l else (⟨((slicePicked (aQ l) l1 u1 none).filterMap ((aQ l).cps[·]?)).toArray⟩:Str))=aQ (Ev.cut l lo hi):=by
    split
    .rename_i hc;rw[GY]at hc;have hlen:(slicePicked (aQ l) l1 u1 none).length=(aQ l).length:=eq_of_beq hc.2;have hlen2:(slicePicked (aQ l) l1 u1 none).length=Ev.aP l.length l.length hi - Ev.aP l.length 0 lo:=by
      show(Builtin.Str.strSliceIndices (l1.map (·.1)) (u1.map (·.1)) 1 (aQ l).length).length=_;rw[e2,e4,CV,cO];simp
     rw[cO]at hlen;have hb:Ev.aP l.length l.length hi<=l.length:=HT.vN _ _ (Ad _) hi;have ha:Ev.aP l.length 0 lo<=l.length:=HT.vN _ _ (aa7 _) lo;rw[uP l lo hi ⟨by omega,by omega⟩]
    .rw[HM];rfl
   rw[hres];exact⟨.str (aQ (Ev.cut l lo hi)),H,I.tok _,⟨_,rfl⟩,q.here ⟨rfl,by omega⟩ hr⟩
 |ref m=>
  simp only[Ev.iZ]at e;split at e
  .rename_i ds e1;obtain⟨p,rfl,z⟩:=v1.shape;obtain⟨p',vs,z',q1,w⟩:=hr.read e1;rw[z]at z';cases z';obtain⟨hz,q2⟩:=q.lst e (w.cut lo hi) hr;exact JH pins s σ H _ v vl vu lo hi sl Q I rx hs pl pu ⟨p,vs,rfl,q1,q2⟩
  .cases e
 |_=>cases e
theorem wm:∀(k:Nat) (l:List Nat) (acc:List Nat),(List.replicate k l.toArray).foldl (·++·) acc.toArray=(acc++Ev.rep k l).toArray
 |0,l,acc=>by simp[Ev.rep]
 |k+1,l,acc=>by
  rw[xZ,aaJ];have:acc.toArray++l.toArray=(acc++l).toArray:=by simp
  rw[this,wm k l (acc++l)];simp[Ev.rep,xZ]
def o4{α:Type}(k:Nat)(l:List α):(Ev.rep k l).length=k*l.length:=by
 unfold Ev.rep;exact len_rep l k
def Ke{l:List Nat}{k:Int}(h:0<=k):Txt.mul (aQ l) k=aQ (Ev.rep k.toNat l):=by
 unfold Txt.mul;by_cases h1:k<1
 .have:k=0:=by omega
  subst this;rw[mD (by decide)];rfl
 .rw[Yv h1];split
  .rename_i hc;rw[aaL]at hc;rcases hc with hc|hc
   .have:k=1:=by simpa using hc
    subst this;simp[Ev.rep]
   .rw[cO]at hc;have:l=[]:=by cases l with|nil=>rfl|cons _ _=>simp at hc
    subst this;simp[Ev.rep,aQ]
  .show(⟨(List.replicate k.toNat (aQ l).cps).foldl (·++·) #[]⟩:Str)=_;have:=wm k.toNat l [];simp only[aaV]at this;exact aab Str.mk this
def kX{a b:Nat}(h1:a<=1000)(h2:b<=1000):a*b<=sizeLine:=aaf (Nat.mul_le_mul h1 h2) (by decide)
def Kf{pins:List (Addr×Obj)}{σ:L2.St}{H:Hp}{s:Shared}{Q:VK}(I:Inv X pins σ H s){l:List Nat}{k:Int}{t u:Tok}(hk:0<=k/\k<=1000/\l.length<=1000)(q:Q (.str (aQ (Ev.rep k.toNat l))) H) :
  wpAny (model X.prog X.w) X.A (binaryOp .Mult (.str (aQ l) t) (.int k u)) (EP X pins σ Q) X.xe s:=by
 have hok:MulOk (aQ l) k:=mulOk_of 1000 1000 (by rw[cO];exact hk.2.2) (by exact hk.2.1) (by omega) (by decide) (by decide);refine SB.mul hok λt' k'=>?_;rw[Ke hk.1];exact⟨.str _,H,I.tok _,⟨_,rfl⟩,q⟩
def qm:fillsNumberSlot (.type "tuple") "mul" = pure false:=
 PySem.fillsNumberSlot_seq (id:="tuple.__mul__") (r:=some (.builtin "tuple.__rmul__")) PySem.F.slot_tuple_mul.lookup (by decide +kernel) PySem.F.slot_tuple_rmul.lookup (by decide +kernel)
def wo:seqRepeat? (.type "tuple")=pure (some (.builtin "tuple.__mul__")):=by
 unfold seqRepeat?;rw[PySem.seqSlot_of (T:="tuple") (name:="__mul__") (id:="tuple.__mul__") PySem.F.slot_tuple_mul.lookup (by decide +kernel),PySem.seqSlot_of (T:="tuple") (name:="__rmul__") (id:="tuple.__rmul__") PySem.F.slot_tuple_rmul.lookup (by decide +kernel)];rfl
def A4(a:Int)(t:Tok)(l:Addr)(items:Array Value)(n:Nat)(dd:Option Addr)(sl:Array (Option Value)) :
  Meets (Builtin.«int.__rmul__» ⟨[.int a t,.ref l],[]⟩) (λ_ R s=>s.heap.get? l=some { cls:=.type "tuple",dict:=dd,data:=.seq items n,slots:=sl }/\R (.ok (.ret Value.notImplemented)) s):=
 .of_wp λprog w A R s h=>by obtain⟨hp,g,d,tk,os⟩:=s;obtain⟨hl,h⟩:=h;wp_walk;exact⟨_,rfl,h⟩
def A5(l:Addr)(items:Array Value)(n:Nat)(dd:Option Addr)(sl:Array (Option Value))(k:Int)(u:Tok)(h1:¬ (decide (k < -2 ^ 63) ||decide (k≥2 ^ 63))=true)(h3:(items.isEmpty ||k==1)=true) :
  Meets (Builtin.«tuple.__mul__» ⟨[.ref l,.int k u],[]⟩) (λ_ R s=>s.heap.get? l=some { cls:=.type "tuple",dict:=dd,data:=.seq items n,slots:=sl }/\R (.ok (.ret (.ref l))) s):=
 .of_wp λprog w A R s h=>by obtain⟨hp,g,d,tk,os⟩:=s;obtain⟨hl,h⟩:=h;have f1:=acs;wp_walk using aaC hl;rw[Yv h1];wp_walk using aaC hl;exact⟨_,rfl,h⟩
def A6(l:Addr)(items:Array Value)(n:Nat)(dd:Option Addr)(sl:Array (Option Value))(k:Int)(u:Tok)(h1:¬ (decide (k < -2 ^ 63) ||decide (k≥2 ^ 63))=true)(h3:¬ (items.isEmpty ||k==1)=true)(h4:(decide (k<=0) ||items.isEmpty)=true) :
  Meets (Builtin.«tuple.__mul__» ⟨[.ref l,.int k u],[]⟩) (λ_ R s=>s.heap.get? l=some { cls:=.type "tuple",dict:=dd,data:=.seq items n,slots:=sl }/\R (.ok (.ret (Value.ref s.heap.objs.size))) { s with heap:=s.heap.push { cls:=Value.type "tuple",data:=Data.seq #[]},toks:=s.toks }):=
 .of_wp λprog w A R s h=>by obtain⟨hp,g,d,tk,os⟩:=s;obtain⟨hl,h⟩:=h;have f1:=acs;wp_walk using aaC hl;rw[Yv h1];wp_walk using aaC hl;exact⟨_,rfl,h⟩
def A7(l:Addr)(items:Array Value)(n:Nat)(dd:Option Addr)(sl:Array (Option Value))(k:Int)(u:Tok)(h1:¬ (decide (k < -2 ^ 63) ||decide (k≥2 ^ 63))=true)(h3:¬ (items.isEmpty ||k==1)=true)(h4:¬ (decide (k<=0) ||items.isEmpty)=true)
  (h5:¬ (items.size*k > (2 ^ 63 - 1) / 8)) (h6:¬ Builtin.Tuple.tupleTooMany (items.size*k)=true) (hsz:(List.foldl (λx1 x2=>x1++x2) #[] (List.replicate k.toNat items)).size<=sizeLine) :
  Meets (Builtin.«tuple.__mul__» ⟨[.ref l,.int k u],[]⟩) (λ_ R s=>s.heap.get? l=some { cls:=.type "tuple",dict:=dd,data:=.seq items n,slots:=sl }/\R (.ok (.ret (Value.ref s.heap.objs.size))) { s with heap:=s.heap.push { cls:=Value.type "tuple",data:=Data.seq (List.foldl (λx1 x2=>x1++x2) #[] (List.replicate k.toNat items))},toks:=s.toks }):=
 .of_wp λprog w A R s h=>by obtain⟨hp,g,d,tk,os⟩:=s;obtain⟨hl,h⟩:=h;have f1:=acs;wp_walk using aaC hl;rw[Yv h1];wp_walk using aaC hl;rw[Yv h5];wp_walk using aaC hl;exact⟨_,rfl,h⟩
theorem uQ:∀(k:Nat) (l acc:List Value),(List.replicate k l.toArray).foldl (·++·) acc.toArray=(acc++Ev.rep k l).toArray
 |0,l,acc=>by simp[Ev.rep]
 |k+1,l,acc=>by
  rw[xZ,aaJ];have:acc.toArray++l.toArray=(acc++l).toArray:=by simp
  rw[this,uQ k l (acc++l)];simp[Ev.rep,xZ]
def Kg{pins:List (Addr×Obj)}{σ:L2.St}{H:Hp}{s:Shared}{Q:VK}(I:Inv X pins σ H s){p:Addr}{vs:List V}{k:Int}{u:Tok}(hk:0<=k/\k<=1000/\vs.length<=1000)(hp:dJ X.K H p vs)
  (q1:Ev.rep k.toNat vs=vs->Q (.ref p) H) (q2:∀p',H p'=none->Q (.ref p') (upd H p' (.tup (Ev.rep k.toNat vs)))) :
  wpAny (model X.prog X.w) X.A (binaryOp .Mult (.ref p) (.int k u)) (EP X pins σ Q) X.xe s:=by
 obtain⟨us,pv,pt,hz⟩:=I.tuple hp;obtain⟨⟨cls,dd,data,sl⟩,ho,hc,n,hd⟩:=id pt;simp only at hc hd;subst hc hd;have hl:=pv.length;have h1:¬ (decide (k < -2 ^ 63) ||decide (k≥2 ^ 63))=true:=by simp;omega
 refine aci (T:="tuple") (U:="int") (by decide) ⟨_,ho,rfl⟩ (λs'=>ach s' k u) qm PySem.F.fills_int_mul acF wo PySem.F.slot_int_index.lookup
  (abj acF (ach s k u) PySem.F.entry_int_rmul (PySem.F.args_int_rmul_2 _ _) (A4 k u p us.toArray n dd sl) ⟨ho,rfl,⟨_,ho,rfl⟩,?_⟩)
 have hrep:∀m:Nat,(Ev.rep m us).length=m*us.length:=λm=>o4 m us;by_cases h3:(us.toArray.isEmpty ||k==1)=true
 .refine abj abP ⟨_,ho,rfl⟩ abI (abF _ _) (A5 p us.toArray n dd sl k u h1 h3) ⟨ho,?_⟩;refine⟨.ref p,H,I,rfl,q1 ?_⟩;rw[aaL]at h3;rcases h3 with h3|h3
  .have:us=[]:=by simpa using h3
   subst this;cases pv;simp[Ev.rep]
  .have:k=1:=by simpa using h3
   subst this;simp[Ev.rep]
 .have laid:∀m:Nat,m=k.toNat->EP X pins σ Q (.ref s.heap.objs.size) { s with heap:=s.heap.push { cls:=.type "tuple",data:=.seq (Ev.rep m us).toArray }}:=λm hm=>by
   subst hm;refine⟨.ref s.heap.objs.size,_,I.laid (t':=s.toks) (o:=.tup (Ev.rep k.toNat vs)) (λb ob q=>vz _ q) (Ad _) ?_,rfl,q2 _ (I.hok.fresh (Ad _))⟩;exact⟨by rw[o4];exact kX (by omega) hk.2.2,_,pv.rep k.toNat,IsTup.new _ _⟩
  by_cases h4:(decide (k<=0) ||us.toArray.isEmpty)=true
  .refine abj abP ⟨_,ho,rfl⟩ abI (abF _ _) (A6 p us.toArray n dd sl k u h1 h3 h4) ⟨ho,?_⟩;have hk0:k=0:=by
    rw[aaL]at h4 h3;rcases h4 with h4|h4
    .have:k<=0:=aaG h4;omega
    .exact absurd (.inl h4) h3
   have:=laid 0 (by rw[hk0];rfl);exact this
  .have hm:us.toArray.size*k.toNat<=1000000:=by
    rw[iy];exact Nat.mul_le_mul (by omega:us.length<=1000) (by omega:k.toNat<=1000)
   have hm':(us.toArray.size:Int)*k<=1000000:=by
    have e:(us.toArray.size:Int)*k=((us.toArray.size*k.toNat:Nat):Int):=by
     rw[Int.natCast_mul,Int.toNat_of_nonneg hk.1]
    rw[e];omega
   have hf:List.foldl (λx1 x2=>x1++x2) #[] (List.replicate k.toNat us.toArray)=(Ev.rep k.toNat us).toArray:=by
    have:=uQ k.toNat us [];simpa using this
   refine abj abP ⟨_,ho,rfl⟩ abI (abF _ _) (A7 p us.toArray n dd sl k u h1 h3 h4 (by omega) ?_ ?_) ⟨ho,?_⟩
   .unfold Builtin.Tuple.tupleTooMany;simp only[abd];have:(sizeLine:Int)=16777216:=by rw[aaS];rfl
    omega
   .rw[hf];simp only[iy];rw[o4];exact kX (by omega) (by omega)
   .rw[hf];exact laid _ rfl
def NO:ek X (binaryOp .Mult) (jH X.K (Ev.bD .mul)):=by
 intro pins s σ H x y v u Q I rx ry q;obtain⟨r,h,a,b,d,h',hr,v1,v2,e,q⟩:=q;cases b with
 |int k=>
  have s2:=v2.shape;simp only[cE]at s2;subst s2;cases a with
  |int i=>
   delta Ev.bD at e;dsimp only at e
   split at e
   .rename_i hz;cases e;refine Ms pins s σ H x _ v u Q I rx ry ⟨i,k,v1,rfl,?_,q.here rfl hr⟩;unfold Ev.bT at hz;simp only[aaL,GY,abd]at hz;exact hz
   .cases e
  |str l=>
   delta Ev.bD at e;dsimp only at e
   split at e
   .rename_i hz;cases e;simp only[RV]at v1;obtain⟨rfl,hl⟩:=v1;obtain⟨t,rfl⟩:=rx;obtain⟨t',rfl⟩:=ry;exact Kf I hz (q.here ⟨rfl,by rw[o4];exact kX (by omega) hz.2.2⟩ hr)
   .cases e
  |tup ds=>
   delta Ev.bD at e;dsimp only at e
   split at e
   .rename_i hz;cases e;obtain⟨p,vs,rfl,z,w⟩:=v1.shape;cases rx;obtain⟨t',rfl⟩:=ry;refine Kg I ⟨hz.1,hz.2.1,by rw[w.length];exact hz.2.2⟩ z (λXu=>q.here ⟨p,vs,rfl,z,?_⟩ hr) λp' hp=>q.tup (w.rep k.toNat) hr hp;have:=w.rep k.toNat;rw[Xu]at this;exact this
   .cases e
  |ref i=>
   delta Ev.bD at e;dsimp only at e
   split at e
   .rename_i ds e1;split at e
    .rename_i hz;obtain⟨p,rfl,z⟩:=v1.shape;obtain⟨p',g1,vs,g2,g3⟩:=hr.ob _ _ e1;rw[z]at g1;cases g1;obtain⟨hz2,q2⟩:=q.lst e (g3.rep k.toNat) hr;exact MJ pins s σ H (.ref p) _ v u Q I rx ry ⟨p,k,vs,rfl,rfl,g2,by omega,by omega,kX (by rw[g3.length];exact hz.2.2) (by omega),q2⟩
    .cases e
   .cases e
  |_=>cases e
 |_=>cases a<;>cases e
end
section
variable{X:Cx}
theorem zl{K:PySem.W.Frag}{H:Hp}{r:List Addr}:∀{ds:List D}{is:List Int}{vs:List V}{us:List Value},Ev.intsOf ds=some is->aJ K H r ds vs->Vals vs us->IntsAre us is
 |[],bs,vs,us,e,w,p=>by
  cases e;simp only[aJ]at w;subst w;cases p;exact .nil
 |d :: ds,bs,vs,us,e,w,p=>by
  cases d with
  |int b=>
   simp only[Ev.intsOf,gV]at e;obtain⟨bs',e1,rfl⟩:=e;simp only[aJ,RV]at w;obtain⟨v,w',rfl,rfl,w2⟩:=w;cases p with
   |cons p1 p2=>
    obtain⟨t,rfl⟩:=p1;exact .cons _ _ (zl e1 w2 p2)
  |_=>cases e
theorem zm{K:PySem.W.Frag}{H:Hp}{r:List Addr}:∀{ds:List D}{ss:List (List Nat)}{vs:List V}{us:List Value},Ev.strsOf ds=some ss->aJ K H r ds vs->Vals vs us->StrsAre us (ss.map aQ)/\∀l∈ss,l.length<=sizeLine
 |[],bs,vs,us,e,w,p=>by
  cases e;simp only[aJ]at w;subst w;cases p;exact⟨.nil,λl h=>nomatch h⟩
 |d :: ds,bs,vs,us,e,w,p=>by
  cases d with
  |str b=>
   simp only[Ev.strsOf,gV]at e;obtain⟨bs',e1,rfl⟩:=e;simp only[aJ,RV]at w;obtain⟨v,w',rfl,⟨rfl,hb⟩,w2⟩:=w;cases p with
   |cons p1 p2=>
    obtain⟨t,rfl⟩:=p1;obtain⟨g1,g2⟩:=zm e1 w2 p2;refine⟨.cons _ _ g1,λl hl=>?_⟩;rcases List.mem_cons.mp hl with z|z
    .subst z;exact hb
    .exact g2 l z
  |_=>cases e
variable{G:Tb}{n:Nat}{sc:Scope}{N:List Str}{df:Bool}
def NP (g:Good G n sc N df X):fy X (.builtin "sum") (uF X.K (Ev.dz .sum)):=by
 intro pins s σ H xs us Q I r q;obtain⟨rr,h,as,d,h',hr,v1,e,q⟩:=q
 match as,e with
 |[.ref m],e=>
  obtain⟨e,rfl⟩:=Ev.aM e;simp only[gV,V4]at e;obtain⟨is,⟨ds,e1,e2⟩,rfl⟩:=e;simp only[aJ,RV]at v1;obtain⟨v,w,rfl,⟨p,rfl,z⟩,rfl⟩:=v1;obtain⟨u,rfl,ru⟩:=vals1 r;cases ru;obtain⟨p',vs,z',q1,w⟩:=hr.read e1;rw[z]at z';cases z';obtain⟨zs,pv,pl,_⟩:=I.list q1;have hi:=zl e2 w pv;obtain⟨ys,hys⟩:=(hi.allInts).items;have hl:s.heap.IsList p (intItems ys):=by rw[<-hys];exact pl.isList
  refine sum_intListG (I.ok.hd g.calm) hl λh'' tk t' hk=>?_;have hsum:preSum (numAt ys) ys.size=is.sum:=by
   have h1:numsOf zs.toArray.toList=is:=by rw[show zs.toArray.toList=zs from rfl];exact hi.numsOf
   rw[hys,nums_intItems]at h1;rw[preSum_eq,aaF (by simp),h1]
  rw[hsum];exact⟨.int is.sum,H,I.kept hk,⟨_,rfl⟩,q.here rfl hr⟩
def NQ:fy X (.builtin "len") (uF X.K (Ev.dz .len)):=by
 intro pins s σ H xs us Q I r q;obtain⟨rr,h,as,d,h',hr,v1,e,q⟩:=q
 match as,e with
 |[.str l],e=>
  delta Ev.dz at e;dsimp only at e
  split at e
  .cases e;simp only[aJ,RV]at v1;obtain⟨v,w,rfl,⟨rfl,hl⟩,rfl⟩:=v1;refine vP pins s σ H _ us Q I r ⟨_,rfl,by rw[cO];exact hl,?_⟩;rw[cO];exact q.here rfl hr
  .cases e
 |[.tup ds],e=>
  cases e;simp only[aJ,RV]at v1;obtain⟨v,w,rfl,⟨p,vs,rfl,z,w'⟩,rfl⟩:=v1;refine nJ pins s σ H _ us Q I r ⟨p,vs,rfl,.inr z,?_⟩;rw[w'.length];exact q.here rfl hr
 |[.ref m],e=>
  obtain⟨e,rfl⟩:=Ev.aM e;simp only[gV]at e;obtain⟨ds,e1,rfl⟩:=e;simp only[aJ,RV]at v1;obtain⟨v,w,rfl,⟨p,rfl,z⟩,rfl⟩:=v1;obtain⟨p',vs,z',q1,w⟩:=hr.read e1;rw[z]at z';cases z';refine nJ pins s σ H _ us Q I r ⟨p,vs,rfl,.inl q1,?_⟩;rw[w.length];exact q.here rfl hr
def NR (g:Good G n sc N df X):fy X (.builtin "min") (uF X.K (Ev.dz .min)):=by
 intro pins s σ H xs us Q I r q;obtain⟨rr,h,as,d,h',hr,v1,e,q⟩:=q
 match as,e with
 |[.int i,.int j],e=>
  cases e;simp only[aJ,RV]at v1;obtain⟨v,w,rfl,rfl,v',w',rfl,rfl,rfl⟩:=v1;exact Ck g.calm pins s σ H _ us Q I r ⟨i,j,rfl,q.here rfl hr⟩
def Kh:fy X (.type "int") (uF X.K (Ev.dz .lE)):=by
 intro pins s σ H xs us Q I r q;obtain⟨rr,h,as,d,h',hr,v1,e,q⟩:=q
 match as,e with
 |[.bl b],e=>
  cases e;simp only[aJ,RV]at v1;obtain⟨v,w,rfl,rfl,rfl⟩:=v1;obtain⟨u,rfl,r1⟩:=vals1 r;cases (show u=Value.bool b from r1);exact call_int_bool ⟨.int (if b then 1 else 0),H,I.tok _,⟨_,rfl⟩,q.here rfl hr⟩
def CW:uA X "list.append" (vW X.K (Ev.fq .append)):=by
 intro pins s σ H x xs v us Q I rx rs q;obtain⟨r,h,a,as,d,h',hr,v1,v2,e,q⟩:=q;cases a with
 |ref m=>
  match as,e with
  |[b],e=>
   delta Ev.fq at e;dsimp only at e
   split at e
   .rename_i ds e1;split at e
    .rename_i hz;cases e;rw[jG]at hz;obtain⟨p,rfl,z⟩:=v1.shape;simp only[aJ]at v2;obtain⟨y,w,rfl,v3,rfl⟩:=v2;obtain⟨p',g1,vs,g2,g3⟩:=hr.ob _ _ e1;rw[z]at g1;cases g1;refine uB pins s σ H _ _ v us Q I rx rs ⟨p,vs,y,rfl,rfl,g2,by rw[g3.length];exact hz,?_⟩;have f:=Fm.write (K:=X.K) (ws:=vs++[y]) g2 (aal z);exact q _ _ r rfl (hr.write e1 z g2 (g3.append (.cons v3 .nil))) f
    .cases e
   .cases e
  |[],e=>cases e
  |_ :: _ :: _,e=>cases e
 |_=>cases e
def CY:uA X "list.extend" (vW X.K (Ev.fq .extend)):=by
 intro pins s σ H x xs v us Q I rx rs q;obtain⟨r,h,a,as,d,h',hr,v1,v2,e,q⟩:=q;cases a with
 |ref m=>
  match as,e with
  |[.ref k],e=>
   delta Ev.fq at e;dsimp only at e
   split at e
   .rename_i ds es e1 e2;split at e
    .rename_i hz;cases e;rw[jG]at hz;obtain⟨p,rfl,z⟩:=v1.shape;simp only[aJ,RV]at v2;obtain⟨y,w,rfl,⟨p2,rfl,z2⟩,rfl⟩:=v2;obtain⟨p',g1,vs,g2,g3⟩:=hr.ob _ _ e1;rw[z]at g1;cases g1;obtain⟨p'',k1,ws,k2,k3⟩:=hr.ob _ _ e2;rw[z2]at k1;cases k1;refine Cr pins s σ H _ _ v us Q I rx rs ⟨p,p2,vs,ws,rfl,rfl,g2,k2,by rw[g3.length,k3.length];exact hz,?_⟩;have f:=Fm.write (K:=X.K) (ws:=vs++ws) g2 (aal z);exact q _ _ r rfl (hr.write e1 z g2 (g3.append k3)) f
    .cases e
   .cases e
 |_=>cases e
def NS:uA X "list.pop" (vW X.K (Ev.fq .pop)):=by
 intro pins s σ H x xs v us Q I rx rs q;obtain⟨r,h,a,as,d,h',hr,v1,v2,e,q⟩:=q;cases a with
 |ref m=>
  match as,e with
  |[],e=>
   delta Ev.fq at e;dsimp only at e
   split at e
   .rename_i ds e1;split at e
    .rename_i y e2;cases e;obtain⟨p,rfl,z⟩:=v1.shape;simp only[aJ]at v2;subst v2;obtain⟨p',g1,vs,g2,g3⟩:=hr.ob _ _ e1;rw[z]at g1;cases g1;obtain⟨vy,g4,g5⟩:=g3.get e2;refine MI pins s σ H _ _ v us Q I rx rs ⟨p,vs,vy,rfl,rfl,g2,by rw[g3.length];exact g4,?_⟩;have f:=Fm.write (K:=X.K) (ws:=vs.dropLast) g2 (aal z);have hd:aJ X.K H r ds.dropLast vs.dropLast:=by
      rw[abn,abn,g3.length];exact g3.take _
     exact q _ _ r (g5.mono f) (hr.write e1 z g2 hd) f
    .cases e
   .cases e
  |_ :: _,e=>cases e
 |_=>cases e
theorem qo(sep:List Nat):∀ss:List (List Nat),Str.join (aQ sep) (ss.map aQ)=aQ (Ev.bZ sep ss)
 |[]=>rfl
 |[s]=>rfl
 |s :: t :: r=>by
  have ih:=qo sep (t :: r);show aQ s++aQ sep++Str.join (aQ sep) ((t :: r).map aQ)=_;rw[ih,tu,tu];rfl
def join_eq(sep:List Nat)(ss:List (List Nat)):Txt.join (aQ sep) (ss.map aQ)=aQ (Ev.bZ sep ss):=by
 rw[<-qo];exact PySem.StrLaws.glued_eq_join _ _
def Kl:uA X "str.join" (vW X.K (Ev.fq .join)):=by
 intro pins s σ H x xs v us Q I rx rs q;obtain⟨r,h,a,as,d,h',hr,v1,v2,e,q⟩:=q;cases a with
 |str sep=>
  match as,e with
  |[.ref k],e=>
   delta Ev.fq at e;dsimp only at e
   split at e
   .rename_i ss e1;split at e
    .rename_i hz;cases e;simp only[V4]at e1;obtain⟨ds,e1,e2⟩:=e1;simp only[RV]at v1;obtain⟨rfl,hl⟩:=v1;obtain⟨t,rfl⟩:=rx;simp only[aJ,RV]at v2;obtain⟨y,w,rfl,⟨p2,rfl,z2⟩,rfl⟩:=v2;obtain⟨u,rfl,ru⟩:=vals1 rs;cases ru;obtain⟨p',vs,z',q1,w⟩:=hr.read e1;rw[z2]at z';cases z';obtain⟨zs,pv,pl,_⟩:=I.list q1;obtain⟨g1,g2⟩:=zm e2 w pv;have hlen:((ss.map aQ).map (·.length)).sum+(ss.map aQ).length*(aQ sep).length<=16777216:=by
      rw[abX,aag,cO];have:(λx:Str=>x.length) ∘ aQ=λl:List Nat=>l.length:=funext λl=>cO l;rw[this];exact hz
     refine join_list pl.isList g1 hlen λt' k'=>?_;rw[join_eq];refine⟨.str _,H,I.tok _,⟨_,rfl⟩,q.here ⟨rfl,?_⟩ hr⟩;have hj:=PySem.StrLaws.join_length_le (aQ sep) (ss.map aQ);rw[qo,cO]at hj;have:sizeLine=16777216:=aaS;omega
    .cases e
   .cases e
 |_=>cases e
end
section
variable{X:Cx}{G:Tb}{n:Nat}{sc:Scope}{N:List Str}{df:Bool}{m:List Nat}{a c:E}{xa:Expr}{pos:Pos}
theorem aJ.ofStr{K:PySem.W.Frag}{H:Hp}{r:List Addr}:∀(l:List Nat),aJ K H r (l.map λc=>.str [c]) (l.map λc=>.str (aQ [c]))
 |[]=>.nil
 |c :: l=>.cons ⟨rfl,by show 1<=sizeLine;decide⟩ (aJ.ofStr l)
def A8{x:List Nat}{acc:Array Value}(h:ItemsOf (SignAt (aQ x)) acc (aQ x).cps.size):Vals (x.map λc=>.str (aQ [c])) acc.toList:=by
 obtain⟨h1,h2⟩:=h;have hl:acc.toList.length=x.length:=by simpa[aQ]using h1
 have go:∀(y:List Nat) (l:List Value) (k:Nat),l.length=y.length->(∀j v,l[j]?=some v->SignAt (aQ x) (k+j) v)->(∀j,y[j]?=x[k+j]?)->Vals (y.map λc=>.str (aQ [c])) l:=by
  intro y;induction y with
  |nil=>intro l k hl _ _;cases l with|nil=>exact .nil|cons _ _=>simp at hl
  |cons c y ih=>
   intro l k hl hv hy;cases l with
   |nil=>simp at hl
   |cons v l=>
    refine .cons ?_ (ih l (k+1) (by simpa using hl) (λj w hw=>?_) λj=>?_)
    .obtain⟨c',u,hc',rfl⟩:=hv 0 v (by simp);have:=hy 0;simp at this;have hc2:x[k]?=some c':=by simpa[aQ]using hc'
     rw[hc2]at this;cases this;exact⟨u,rfl⟩
    .have:=hv (j+1) w (by simpa using hw);rw[show k+1+j=k+(j+1)by omega];exact this
    .have:=hy (j+1);simp at this;rw[this]
     congr 1
     omega
 exact go x acc.toList 0 hl (λj v hv=>by simpa using h2 j v (by simpa using hv)) λj=>by simp
def Km (g:Good G n sc N df X):fy X (.type "list") (λxs H Q=>∃r h d src x,HR X.K H r h/\RV X.K H r d x/\xs=[x]/\Ev.fN h d=some src/\src.1.length<=sizeLine/\∀vs,aJ X.K H r src.1 vs->∀l,H l=none->Q (.ref l) (upd H l (.lst vs))):=by
 intro pins s σ H xs us Q I rv q;obtain⟨r,h,d,src,x,hr,v1,rfl,e,hz,q⟩:=q;cases d with
 |tup ds=>
  cases e;obtain⟨p,vs,rfl,z,w⟩:=v1.shape;exact nK pins s σ H _ us Q I rv ⟨p,vs,rfl,.inr z,q vs w⟩
 |ref i=>
  simp only[Ev.fN,gV]at e;obtain⟨ds,e1,rfl⟩:=e;obtain⟨p,rfl,z⟩:=v1.shape;obtain⟨p',vs,z',q1,w⟩:=hr.read e1;rw[z]at z';cases z';exact nK pins s σ H _ us Q I rv ⟨p,vs,rfl,.inl q1,q vs w⟩
 |str l=>
  cases e;simp only[RV]at v1;obtain⟨rfl,hl⟩:=v1;obtain⟨u,rfl,ru⟩:=vals1 rv;obtain⟨t,rfl⟩:=ru;refine call_list_str (I.ok.hd g.calm) (aQ l) t (λh' tk acc' c' hk hS' hacc=>?_) (by simpa[aQ]using hl);refine⟨.ref s.heap.objs.size,_,I.laid (t':=tk) (o:=.lst (l.map λc=>.str (aQ [c]))) hk (Ad _) ?_,rfl,q _ (aJ.ofStr l) _ (I.hok.fresh (Ad _))⟩;exact⟨by simpa using hl,acc'.toList,c',A8 hacc,by simpa using hS'⟩
 |_=>cases e
def NT {p:Pos}(ha:JE G n sc N df m a xa) (h1:("list" : Str)∈G.bl:=by decide +kernel) (wu:sc.names.lookup ("list" : Str)=some .globalImplicit:=by rfl)
  (hst:∀env:Env,starEach [xa] env=[(false,eval xa env)]:=by intro _;rfl):JE G n sc N df m (.gU (.seq a)) (.Call (.Name "list" p) [xa] [] pos):=λX g=>by
 refine PE.of (nH (Km g) (g.gl wu) (g.bl _ h1) (by decide +kernel) (dQ (ha X g) g7 (hst _)) (by decide) (by decide) (hst _) rfl) λs H Q q=>?_;obtain⟨r,fr,h,d,h',sr,hr,e,q⟩:=q;simp only[Ev.ev,Ev.cy]at e;obtain⟨src,h3,e1,e⟩:=Ev.ah e;obtain⟨x,h4,e2,e1⟩:=Ev.ah e1;obtain⟨e1,rfl⟩:=Ev.aM e1;refine⟨r,fr,h,x,_,sr,hr,e2,λv H1 r1 v1 hr1 f1=>?_⟩;have hz:src.1.length<=sizeLine:=by
  unfold Ev.alloc at e;split at e
  .rename_i z;rw[<-jG];exact z
  .cases e
 exact⟨r1,_,x,src,v,hr1,v1,rfl,e1,hz,λvs w l hl=>((q.later f1).lst e w hr1).2 l hl⟩
end
section
variable{a:E}
theorem Vals.reverse{vs:List V}{us:List Value}(w:Vals vs us):Vals vs.reverse us.reverse:=by
 induction w with
 |nil=>exact .nil
 |cons a _ ih=>rw[aay,aay];exact ih.append (.cons a .nil)
end
section
variable{G:Tb}{n:Nat}{sc:Scope}{N:List Str}{df:Bool}{m:List Nat}{a c:E}{xa:Expr}{pos:Pos}
def Ft (g:Good G n sc N df X):fy X (.type "tuple") (λxs H Q=>∃r h d x d' h',HR X.K H r h/\RV X.K H r d x/\xs=[x]/\Ev.sU d h=.ok d' h'/\Res X.K r H h' d' Q):=by
 intro pins s σ H xs us Q I rv q;obtain⟨r,h,d,x,d',h',hr,v1,rfl,e,q⟩:=q;cases d with
 |tup ds=>
  cases e;have v2:=v1;obtain⟨p,vs,rfl,z,w⟩:=v1.shape;exact m9 pins s σ H _ us Q I rv ⟨p,vs,rfl,.inr ⟨z,q.here v2 hr⟩⟩
 |ref i=>
  simp only[Ev.sU]at e;split at e
  .rename_i ds e1;split at e
   .cases e;obtain⟨p,rfl,z⟩:=v1.shape;obtain⟨p',vs,z',q1,w⟩:=hr.read e1;rw[z]at z';cases z';exact m9 pins s σ H _ us Q I rv ⟨p,vs,rfl,.inl ⟨q1,λl hl=>q.tup w hr hl⟩⟩
   .cases e
  .cases e
 |_=>cases e
def NU {p:Pos}(ha:JE G n sc N df m a xa) (h1:("tuple" : Str)∈G.bl:=by decide +kernel) (wu:sc.names.lookup ("tuple" : Str)=some .globalImplicit:=by rfl)
  (hst:∀env:Env,starEach [xa] env=[(false,eval xa env)]:=by intro _;rfl):JE G n sc N df m (.gy a) (.Call (.Name "tuple" p) [xa] [] pos):=λX g=>by
 refine PE.of (nH (Ft g) (g.gl wu) (g.bl _ h1) (by decide +kernel) (dQ (ha X g) g7 (hst _)) (by decide) (by decide) (hst _) rfl) λs H Q q=>?_;obtain⟨r,fr,h,d,h',sr,hr,e,q⟩:=q;simp only[Ev.ev]at e;obtain⟨x,h3,e1,e⟩:=Ev.ah e;refine⟨r,fr,h,x,_,sr,hr,e1,λv H1 r1 v1 hr1 f1=>?_⟩;exact⟨r1,h3,x,v,d,h',hr1,v1,rfl,e,q.later f1⟩
def NV{c:Nat}{st:Stmt}:JS G n sc N df m (.eU c) st:=λX g=>PS.of EN λQ s H q=>by
 obtain⟨r,fr,h,fl,aj,h',sr,hr,e,q⟩:=q;simp only[Ev.ex]at e;cases e
end
def zo{X:Cx}{pins:List (Addr×Obj)}{σ:L2.St}{H:Hp}{s:Shared}{h':Heap}{t':Nat}{ch:List Addr}(I:Inv X pins σ H s)(k:∀b o,b∉ch->s.heap.get? b=some o->h'.get? b=some o)(hf:∀b∈ch,gX X pins H b):Inv X pins σ H { s with heap:=h',toks:=t' }:=by
 have B8:∀b u,H b=some u->b∉ch:=λb u e z=>by rw[(hf b z).1]at e;cases e
 refine I.step (g':=s.gens) (d':=s.drawn) (ch:=ch) (λb hb=>?_) (λb o _ _ hc e _=>k b o hc e) (λb o _ _ hc e _=>⟨o.slots,k b o hc e⟩) (λ_ _ _ _ n=>n)
  (λb o hc e=>⟨o,k b o hc e⟩) (λ_ _ e=>e) (λ_ _ _ e=>e) (λb ps e=>⟨#[],by rw[e];simp⟩) (λm hm=>?_) (λb u e=>?_) I.bare
 .obtain⟨f0,f1,f2,f3,f4,f5⟩:=hf b hb;exact⟨f3,f1,f4,f5⟩
 .obtain⟨o,es,ep,ho,r⟩:=hm;exact⟨o,es,ep,k _ o (λz=>(hf _ z).2.1 rfl) ho,r⟩
 .refine(I.hok b u e).stay (λc v hc q=>k c v ?_ q) (λ_ q=>q) λ_ _ q=>q;rcases hc with z|z
  .rw[z];exact B8 b u e
  .exact B8 c _ z
noncomputable def tw:List (D×D)->Bool
 |[]=>true
 | (.str k,.str v) :: r=>decide (v.length<=1000)&&tw r
 |_=>false
theorem wz{s:List Nat}{r:D}:∀{kvs:List (D×D)},tw kvs=true->Ev.fz (.str s) kvs=some r->∃t,r=.str t/\t.length<=1000/\PySem.Spec.lookup (.str (aQ s)) (tabOf kvs)=some (.str (aQ t))
 |[],_,e=>by simp[Ev.fz]at e
 | (k,v) :: l,ha,e=>by
  cases k<;>cases v<;>simp only[tw,aap,GY,abd]at ha
  rename_i k v;simp only[Ev.fz]at e;rw[show Ev.iY [] 1 (.str k) (.str s)=some (k==s)from rfl]at e;simp only[tabOf,PySem.Spec.lookup];by_cases h:k=s
  .subst h;simp at e;subst e;refine⟨v,rfl,ha.1,?_⟩;have:PySem.Spec.same (.str (aQ k)) (.str (aQ k))=true:=by rw[acU];simp
   rw[this];rfl
  .have hb:(k==s)=false:=by simpa using h
   rw[hb]at e;simp only at e;obtain⟨t,h1,h2,h3⟩:=wz ha.2 e;refine⟨t,h1,h2,?_⟩;have:PySem.Spec.same (.str (aQ k)) (.str (aQ s))=false:=by
    rw[acU];simp;exact λz=>h (oW z)
   rw[this];exact h3
theorem wA{y r:D}:∀{kvs:List (D×D)},tw kvs=true->Ev.fz y kvs=some r->∃s,y=.str s
 |[],_,e=>by simp[Ev.fz]at e
 | (k,v) :: l,ha,e=>by
  cases k<;>cases v<;>simp only[tw,aap,GY,abd]at ha
  cases y with
  |str s=>exact⟨s,rfl⟩
  |ref a=>cases e
  |_=>first|exact wA ha.2 e|cases e
section
variable{G:Tb}{n:Nat}{sc:Scope}{N:List Str}{df:Bool}{m:List Nat}{a:E}{xa:Expr}{pos:Pos}
def Kn {x:Str}{kvs:List (D×D)}{p:Pos}(hm:(x,kvs)∈G.dk) (ha:JE G n sc N df m a xa) (hk:tw kvs=true:=by decide) (hg:sc.names.lookup x=some .globalImplicit:=by rfl) (hd:(x==("__debug__" : Str))=false:=by decide) (hs:oU xa:=by intro _ _;rfl) :
  JE G n sc N df m (.gY kvs a) (.Subscript (.Name x p) xa pos):=λX g=>by
 intro pins s σ H Q I q;obtain⟨r,fr,h,d,h',sr,hr,e,q⟩:=q;simp only[Ev.ev]at e;replace e:=Ev.ah e;obtain⟨y,h1,e1,e⟩:=e;replace e:=Ev.aM e;obtain⟨e,y0⟩:=e;subst y0;obtain⟨ad,hmg,htab⟩:=g.dk x kvs hm;refine Subscript_ (AA (lQ (v:=.ref ad) (g.gl hg) hmg rfl hd) (ha X g) I (R:=λx' y' H2=>x'=.ref ad/\∃r1,RV X.K H2 r1 y y'/\HR X.K H2 r1 h'/\Fm X.K r r1 H H2) ?_ λv u s2 x' y' H2 I2 rx ry z=>?_)
 .refine⟨r,fr,h,y,h',sr,hr,e1,λv H1 r1 v1 hr1 f1=>⟨rfl,r1,v1,hr1,f1⟩⟩
 .obtain⟨rfl,r1,v1,hr1,f1⟩:=z;obtain rfl:v=Value.ref ad:=rx;have hy:∃sx,y=.str sx:=wA hk e;obtain⟨sx,rfl⟩:=hy;obtain⟨t,rfl,ht,hl⟩:=wz hk e;simp only[RV]at v1;obtain⟨rfl,_⟩:=v1;obtain⟨tk,rfl⟩:=ry;refine item_strTab (htab s2.heap I2.jE) hl (λv hv=>?_) (hs _ _);obtain⟨t2,rfl⟩:=PyProof.V.Flat.str_inv hv;exact⟨.str (aQ t),H2,I2.tok _,⟨t2,rfl⟩,q _ H2 r1 ⟨rfl,aaf ht (by rw[aaS];decide)⟩ hr1 f1⟩
end
end Sm
namespace Rv
open PySem PyProof.Rows
def nT:Manifest.owners.lookup (String.ofList ['d','e','s','r','e','v','e','r'].reverse)=some Manifest.sig_reversed:=by kernel_rfl
def slot_next:Slot "reversed" "__next__" "reversed.__next__" :=
 .of (owner:="reversed") (n:="__next__") (by rw[aaU,aaB];kernel_rfl) (by decide +kernel) (by decide +kernel) (by decide +kernel)
  (by first|exact .inl (by decide +kernel)|exact .inr (by decide +kernel)) (by rw[abf];kernel_rfl)
def entry_next:entryFor table "reversed.__next__" = some Builtin.«reversed.__next__»:=entryFor_of_tree (by kernel_rfl)
def args_next (a:Value):argsOk "reversed.__next__" ⟨[a],[]⟩:=by
 unfold argsOk;rw[signature?_of (id:="reversed.__next__") (n:=['_','_','t','x','e','n','_','_']) (o:=['d','e','s','r','e','v','e','r']) (by kernel_rfl) nT];kernel_rfl
def uR:Slot "reversed" "__iter__" "reversed.__iter__" :=
 .of (owner:="reversed") (n:="__iter__") (by rw[aaU,aaB];kernel_rfl) (by decide +kernel) (by decide +kernel) (by decide +kernel)
  (by first|exact .inl (by decide +kernel)|exact .inr (by decide +kernel)) (by rw[abf];kernel_rfl)
def CZ (a:Value):argsOk "reversed.__iter__" ⟨[a],[]⟩:=by
 unfold argsOk;rw[signature?_of (id:="reversed.__iter__") (n:=['_','_','r','e','t','i','_','_']) (o:=['d','e','s','r','e','v','e','r']) (by kernel_rfl) nT];kernel_rfl
def A9:entryFor table "reversed.__iter__" = some Builtin.«dict_keyiterator.__iter__»:=
 entryFor_alias (id':="dict_keyiterator.__iter__") (by kernel_rfl) (by first|rfl|decide +kernel | (unfold String.splitOn;simp +decide [String.splitOnAux])) (by decide +kernel) (by kernel_rfl)
def nU:Slot "reversed" "__length_hint__" "reversed.__length_hint__" :=
 .of (owner:="reversed") (n:="__length_hint__") (by rw[aaU,aaB];kernel_rfl) (by decide +kernel) (by decide +kernel) (by decide +kernel)
  (by first|exact .inl (by decide +kernel)|exact .inr (by decide +kernel)) (by rw[abf];kernel_rfl)
def Ba:entryFor table "reversed.__length_hint__" = some Builtin.«reversed.__length_hint__»:=entryFor_of_tree (by kernel_rfl)
def C4 (a:Value):argsOk "reversed.__length_hint__" ⟨[a],[]⟩:=by
 unfold argsOk;rw[signature?_of (id:="reversed.__length_hint__") (n:=['_','_','t','n','i','h','_','h','t','g','n','e','l','_','_']) (o:=['d','e','s','r','e','v','e','r']) (by kernel_rfl) nT];kernel_rfl
def NW:typeLookup (.type "reversed") "__len__" = pure none:=by rw[aaU,aaB];kernel_rfl
def NX:typeLookup (.type "tuple") "__reversed__" = pure none:=by rw[aaU,aaB];kernel_rfl
section
variable{prog:Program}{w:World}{A:Around}{E:Value->Shared->Prop}{s:Shared}
def C5:Slot "reversed" "__init__" "object.__init__" :=
 .of (owner:="object") (n:="__init__") (by rw[aaU,aaB];kernel_rfl) (by decide +kernel) (by decide +kernel) (by decide +kernel)
  (by first|exact .inl (by decide +kernel)|exact .inr (by decide +kernel)) (by rw[abf];kernel_rfl)
def called:TypeCalled "reversed" "reversed.__new__" "object.__init__" :=
 ⟨by decide +kernel,by decide +kernel,⟨_,_,F.mro_reversed⟩,F.made_reversed,by decide +kernel,F.sub_reversed_self,C5⟩
noncomputable def gZ (h:Heap) (a t:Addr) (i:Int):Prop:=∃o,h.get? a=some o/\o.cls=.type "reversed" /\o.data=.fields #[.ref t,rawInt i]
def gZ.typeIs {a l:Addr}{i:Int}(x:gZ s.heap a l i):s.TypeIs (.ref a) "reversed" :=let ⟨o,ho,hc,_⟩:=x;⟨o,ho,hc⟩
def gZ.at{h h':Heap}{a l:Addr}{i:Int}(x:gZ h a l i)(e:∀o,h.get? a=some o->h'.get? a=some o):gZ h' a l i:=let ⟨o,ho,r⟩:=x;⟨o,e _ ho,r⟩
noncomputable def o5 (l:Addr) (i:Int):Obj:={ cls:=.type "reversed",data:=.fields #[.ref l,rawInt i]}
def o6{h h':Heap}{t:Addr}{items:Array Value}(x:IsTup h t items)(e:∀o,h.get? t=some o->h'.get? t=some o):IsTup h' t items:=let ⟨o,ho,r⟩:=x;⟨o,e _ ho,r⟩
def Fv{t:Addr}{items:Array Value}{Q₁:Value->Shared->Prop}(ht:IsTup s.heap t items)(hfit:(items.size:Int)<2 ^ 63)
  (h:Q₁ (.ref s.heap.objs.size) { s with heap:=s.heap.push (o5 t ((items.size:Int) - 1)),toks:=s.toks+1+1 }) :
  codeAny (model prog w) A (.call (.builtin "reversed.__new__") ⟨[.type "reversed",.ref t],[]⟩) (wants Q₁ E) s:=by
 refine codeAny_of_tree ?_;show wpAny _ A.in1 (do checkBuiltinCall "reversed.__new__" ⟨[.type "reversed",.ref t],[]⟩;again (.builtin "reversed.__new__" ⟨[.type "reversed",.ref t],[]⟩)) _ _ s;refine eZ (aa5 (F.newCall_reversed_1 _) (uZ ⟨abu F.plain_reversed_new _,aby F.entry_reversed_new ?_⟩));rw[abr F.plain_reversed_new _];unfold Builtin.«reversed.__new__»;refine eZ (aa5 (newClass_reversed _) ?_);try dsimp only
 refine eZ (aa5 (a:=()) (by first|rfl|kernel_rfl) ?_);refine eZ (aa5 (a:=()) (by first|rfl|kernel_rfl) ?_);try dsimp only
 refine eZ (aaT ht.typeIs NX ?_);try dsimp only
 refine eZ ?_
 wp_delta
 refine eZ (abS (T:="tuple") (b:=false) ht.typeIs (by rw[abf];kernel_rfl) ?_);refine aaI (λhab=>absurd hab (by decide)) (λ_=>?_);refine eZ (aaT ht.typeIs slot_tuple_getitem.lookup ?_);try dsimp only
 refine aaI (λ_=>?_) (λhab=>absurd (by decide) hab);refine uZ ?_;refine aaI (λhab=>absurd hab (by decide)) (λ_=>?_);refine eZ (len_tuple ht hfit ?_);refine eZ (m:=asInt? _) (uZ ?_);try dsimp only
 refine eZ (m:=Builtin.SmallTypes.newRecord _ _) ?_;unfold Builtin.SmallTypes.newRecord;refine aaA ?_ (by size_fits);exact uZ h
def Fw{t:Addr}{items:Array Value}{Q:Value->Shared->Prop}(ht:IsTup s.heap t items)(hfit:(items.size:Int)<2 ^ 63)
  (h:Q (.ref s.heap.objs.size) { s with heap:=s.heap.push (o5 t ((items.size:Int) - 1)),toks:=s.toks+1+1 }):wpAny (model prog w) A (call (.type "reversed") [.ref t]) Q E s:=by
 refine acE (Q₁:=λobj s₁=>obj=.ref s.heap.objs.size/\s₁={ s with heap:=s.heap.push (o5 t ((items.size:Int) - 1)),toks:=s.toks+1+1 }) called (F.typeCall_reversed_1 _) F.entry_object_init (Fv ht hfit ⟨rfl,rfl⟩) ?_;rintro obj s₁ ⟨rfl,rfl⟩;have hT:({ s with heap:=s.heap.push (o5 t ((items.size:Int) - 1)),toks:=s.toks+1+1 }:Shared).TypeIs (.ref s.heap.objs.size) "reversed" :=⟨_,aac _ rfl,rfl⟩
 refine⟨hT,F.args_object_init_2 _ _,?_⟩;exact object_init_meets (self:=Value.ref s.heap.objs.size) (rest:=[Value.ref t]) called.init.lookup called.made (by decide) prog w A.in1 _ _ ⟨hT,rfl,h⟩
def next_item{it t:Addr}{i:Nat}{items:Array Value}{x:Value}{Q:Option Value->Shared->Prop}(hit:gZ s.heap it t (i:Int))(ht:IsTup s.heap t items)(hx:items[i]?=some x)(hfit:(items.size:Int)<2 ^ 62)
  (hQ:∀h' tk,gZ h' it t ((i:Int) - 1)->Heap.SameBut it s.heap h'->Q (some x) { s with heap:=h',toks:=tk }):wpAny (model prog w) A (pyNext (.ref it)) Q E s:=by
 obtain⟨o,ho,hc,hd⟩:=id hit;have hi:i<items.size:=(Array.getElem?_eq_some_iff.mp hx).1;unfold pyNext;refine eZ (abt (abi (name:=Str.ofString "__next__") hit.typeIs slot_next
  (abg slot_next hit.typeIs entry_next ?_ (args_next _))))
 unfold Builtin.«reversed.__next__»;refine eZ (aa5 (a:=(Value.ref it,[])) rfl ?_);try dsimp only
 refine eZ (aa6 ho hd (x:=.ref t) rfl ?_);refine eZ (aa6 ho hd (x:=rawInt (i:Int)) rfl ?_);show wpAny _ _ (if (i:Int)<0 then _ else _) _ _ s;rw[Yv (by omega)];try dsimp only
 refine eZ (aaT ht.typeIs slot_tuple_getitem.lookup ?_);try dsimp only
 refine aaI (λhab=>absurd hab (by decide)) (λ_=>?_);refine eZ (wpAny_mkInt ?_);refine eZ (abt (getItem_tuple (j:=i) ht (by omega) (by omega) (by unfold seqIndex?;simp;omega) hx ?_));try dsimp only
 refine eZ (aa6 ho hd (x:=rawInt (i:Int)) rfl ?_);show wpAny _ _ (setField (.ref it) 1 (rawInt ((i:Int) - 1)) >>= _) _ _ _;refine eZ (acD ho hd (by simp) ?_);refine uZ ⟨x,rfl,uZ (hQ _ _ ?_ (ab7 ..))⟩;exact⟨_,aaP _ ho (Obj.isFreed_of_fields (abB hd _)),(Obj.cls_mapFields ..).trans hc,by
  rw[abB hd];simp⟩
def next_end{it t:Addr}{Q:Option Value->Shared->Prop}(hh:A.handled=none)(hit:gZ s.heap it t (-1))
  (hQ:∀h',Heap.ExtBut it s.heap h'->Q none { s with heap:=h' }):wpAny (model prog w) A (pyNext (.ref it)) Q E s:=by
 obtain⟨o,ho,hc,hd⟩:=id hit;unfold pyNext;refine eZ (abt (abi (name:=Str.ofString "__next__") hit.typeIs slot_next
  (abg slot_next hit.typeIs entry_next ?_ (args_next _))))
 unfold Builtin.«reversed.__next__»;refine eZ (aa5 (a:=(Value.ref it,[])) rfl ?_);try dsimp only
 refine eZ (aa6 ho hd (x:=.ref t) rfl ?_);refine eZ (aa6 ho hd (x:=rawInt (-1)) rfl ?_);show wpAny _ _ (if (-1:Int)<0 then _ else _) _ _ s;rw[mD (by decide)];refine eZ (acf ?_);refine eZ ?_
 wp_delta
 refine eZ (acD ho hd (by simp) ?_);have ho2:=aaP (Obj.mapFields λx=>x.setIfInBounds 1 (rawInt (-1))) ho (Obj.isFreed_of_fields (abB hd _));refine acD ho2 (abB hd _) (by simp) ?_;refine eZ ?_;unfold Builtin.SmallTypes.stopIteration;first
 |show wpAny _ _ (newExc (.type "StopIteration") [] >>= _) _ _ _
 | (refine eZ ?_;show wpAny _ _ (newExc (.type "StopIteration") [] >>= _) _ _ _)
 refine eZ ?_;simp only[newExc,newTuple];refine eZ (aaA ?_ (by size_fits));refine eZ (m:=firstArgMember _ _) (aa5 (a:=Value.none) (by first|rfl | (simp only[firstArgMember];rfl)) ?_);refine aaA ?_ (by size_fits);simp only[raiseNew];refine eZ (wpAny_handled ?_);first|rw[show A.in1.handled=none from hh]|rw[hh]
 refine eZ (uZ (wpAny_throw ?_));refine eZ (abS (T:="StopIteration") (b:=true) ⟨_,aac _ rfl,rfl⟩ isSubtype_stop ?_);exact uZ (hQ _ ((((ab7 ..).extBut.trans (ab7 ..).extBut).push _).push _))
def wC{it t:Addr}{i:Int}{Q:Value->Shared->Prop}(hit:gZ s.heap it t i)(h:Q (.ref it) s):wpAny (model prog w) A (pyIter (.ref it)) Q E s:=by
 refine wpAny_pyIter_slot hit.typeIs uR (abg uR hit.typeIs A9 ?_ (CZ _));show wpAny _ _ (ret (.ref it)) _ _ s;exact uZ ⟨_,rfl,"reversed",_,hit.typeIs,slot_next.lookup,h⟩
def Fx{it t:Addr}{items:Array Value}{Q:Bool->Shared->Prop}(hit:gZ s.heap it t ((items.size:Int) - 1))(ht:IsTup s.heap t items)(hfit:items.size<=sizeLine)
  (h:∀tk,Q ((items.size:Int) != 0) { s with toks:=tk }):wpAny (model prog w) A (Builtin.List.listLengthHint (.ref it)) Q E s:=by
 obtain⟨o,ho,hc,hd⟩:=id hit;unfold Builtin.List.listLengthHint;refine eZ (aaT hit.typeIs NW ?_);refine aaI (λhab=>absurd hab (by decide +kernel)) (λ_=>?_);refine aaI (λhab=>absurd hab (by decide)) (λ_=>?_);refine eZ (aaT hit.typeIs nU.lookup ?_);generalize hid:("reversed.__length_hint__" : String)=NY
 dsimp only;rw[show splitId NY=some ("reversed","__length_hint__")from by subst hid;decide +kernel];subst hid;dsimp only;refine eZ (abS (T:="reversed") (b:=true) hit.typeIs (by rw[abf];kernel_rfl) ?_);refine aaI (λhab=>absurd hab (by decide)) (λ_=>?_);refine aaI (λhab=>absurd hab (by decide +kernel)) (λ_=>?_);refine eZ (acf ?_);refine eZ (aa5 (nU.bind _) ?_);refine eZ (abt (abg nU hit.typeIs Ba ?_ (C4 _)));unfold Builtin.«reversed.__length_hint__»;refine eZ (aa5 (a:=Value.ref it) rfl ?_);refine eZ (aa6 ho hd (x:=.ref t) rfl ?_);refine aaI (λhab=>absurd hab aau) (λ_=>?_);have hf2:(items.size:Int)<2 ^ 63:=by rw[aaS]at hfit;omega
 refine eZ (len_tuple ht hf2 ?_);refine eZ (m:=asInt? _) (uZ ?_);refine eZ (aa6 ho hd (x:=rawInt ((items.size:Int) - 1)) rfl ?_);show wpAny _ _ (if (items.size:Int)<(items.size:Int) - 1+1 then _ else _) _ _ _;rw[Yv (by omega)];have e1:(items.size:Int) - 1+1=(items.size:Int):=by omega
 rw[e1];unfold retInt;refine eZ (wpAny_mkInt (uZ ⟨_,rfl,?_⟩));generalize s.toks+1+1=tk
 show wpAny _ _ (asInt? (Value.int (items.size:Int) tk) >>= _) _ _ _;refine eZ ?_;refine uZ (a:=some (items.size:Int)) ?_;have Xv:Builtin.List.listFitsIndex (items.size:Int)=true:=by unfold Builtin.List.listFitsIndex;rw[aaE (by omega),aaE (by omega)];rfl
 show wpAny _ _ (if (!Builtin.List.listFitsIndex (items.size:Int))=true then _ else _) _ _ _;rw[Yv (by rw[Xv];decide)];show wpAny _ _ (if (items.size:Int)<0 then _ else _) _ _ _;rw[Yv (by omega)];have Xw:Builtin.List.listTooLong ((items.size:Int).toNat)=false:=by unfold Builtin.List.listTooLong;rw[abl];exact aad (by omega)
 show wpAny _ _ (if Builtin.List.listTooLong ((items.size:Int).toNat)=true then _ else _) _ _ _;rw[Yv (by rw[Xw];decide)];exact uZ (h _)
def _root_.PySem.Walks.NZ(hh:A.handled=none)(I t:Addr)(hne:t≠I)(items:Array Value)(hfit:(items.size:Int)<2 ^ 62) :
  Walks prog w A I [I,t] [I] items.size (λi v=>items[items.size - 1 - i]?=some v) (λi h=>i<=items.size/\gZ h I t ((items.size:Int) - 1 - (i:Int))/\IsTup h t items) where
 sub:=λb hb=>by simp at hb;simp[hb]
 frame:=λ_ _ _ x hk=>⟨x.1,x.2.1.at λo e=>hk I (by simp) o e,o6 x.2.2 λo e=>hk t (by simp) o e⟩
 item:=λi s Q E hi x hQ=>by
  have e:(items.size:Int) - 1 - (i:Int)=((items.size - 1 - i:Nat):Int):=by omega
  have hit:=x.2.1;rw[e]at hit;have hx:items[items.size - 1 - i]?=some (items[items.size - 1 - i]'(by omega)):=acm (by omega);refine next_item hit x.2.2 hx hfit λh' tk N1 hs'=>?_;have e2:((items.size - 1 - i:Nat):Int) - 1=(items.size:Int) - 1 - ((i+1:Nat):Int):=by omega
  rw[e2]at N1;exact hQ _ h' tk hx ⟨hi,N1,o6 x.2.2 λo eo=>(hs'.2 t hne).trans eo⟩ λb o hb eo=>hs'.extBut b o (λh=>hb (by simp[h])) eo
 done:=λs Q E x hQ=>by
  have e:(items.size:Int) - 1 - (items.size:Int) = -1:=by omega
  have hit:=x.2.1;rw[e]at hit;exact next_end hh hit λh' he'=>hQ h' s.toks λb o hb eo=>he' b o (λh=>hb (by simp[h])) eo
 self:=λ_ _ _ _ x hQ=>wC x.2.1 hQ
def Bb{R:Result->Shared->Prop}{I t:Addr}{items:Array Value}(hh:A.handled=none)(hit:gZ s.heap I t ((items.size:Int) - 1))(ht:IsTup s.heap t items)(hne:t≠I)(hlen:items.size<=sizeLine)
  (S:Addr) (hSI:S≠I) (hSt:S≠t) (res:Value) (c₀:Nat) (hS:s.heap.get? S=some { cls:=.type "list",data:=.seq #[] c₀ })
  (hR:∀h' tk acc' c',(∀b o,b≠S->b≠I->s.heap.get? b=some o->h'.get? b=some o)->h'.get? S=some { cls:=.type "list",dict:=none,data:=.seq acc' c',slots:=#[]}->
   ItemsOf (λi v=>items[items.size - 1 - i]?=some v) acc' items.size->R (.ok (.ret res)) { s with heap:=h',toks:=tk }) :
  wpAny (model prog w) A.in1 (Builtin.List.listExtendWith (.ref S) (.ref I) res)
   (λfin s'=>match fin with|.done f=>R (.ok f) s'|.again c'=>c'.quiet=true/\codeAny (model prog w) A c' R s') (λe s'=>R (.error e) s') s:=by
 have hf:(items.size:Int)<2 ^ 62:=by rw[aaS]at hlen;omega
 have hSf:S∉[I,t]:=λhm=>by rcases List.mem_cons.mp hm with e|e;exact hSI e;exact hSt (List.mem_singleton.mp e)
 have W:=(Walks.NZ (prog:=prog) (w:=w) (A:=A.in1) hh I t hne items hf).toS;have key:∀(h:Heap) (c₁ tk:Nat),gZ h I t ((items.size:Int) - 1 - ((0:Nat):Int))->IsTup h t items->(∀b o,b≠S->s.heap.get? b=some o->h.get? b=some o)->
   h.get? S=some { cls:=.type "list",data:=.seq #[] c₁ }->codeAny (model prog w) A (.builtin "list.extend.loop" ⟨[.ref S,.ref I,res],[]⟩) R { s with heap:=h,toks:=tk }:=by
  intro h c₁ tk hit ht hk Bc;refine codeAny_extend_loopS W hlen S hSf res items.size 0 _ #[] c₁ rfl (aa7 _) ⟨aa7 _,hit,ht⟩ Bc (ItemsOf.nil _) λs' acc' c' hm hS' hacc=>?_;rw[Moved.eq_with hm];refine hR s'.heap s'.toks acc' c' (λb o hb hb2 e=>hm.heap b o (λhmem=>?_) (hk b o hb e)) hS' hacc;rcases List.mem_cons.mp hmem with e'|hmem
  .exact hb e'
  .exact hb2 (List.mem_singleton.mp hmem)
 unfold Builtin.List.listExtendWith;refine eZ (abz (T:="reversed") hit.typeIs ?_);have h1:Builtin.List.listSameRef (.ref S) (.ref I)=false:=by simp[Builtin.List.listSameRef,hSI]
 have h2:(Value.type "reversed" ==Value.type "list")=false:=by decide
 have h3:(Value.type "reversed" ==Value.type "tuple")=false:=by decide
 simp only[h1,h2,h3,Bool.or_false,aap,aa2];refine eZ (wC hit ?_);refine eZ (aaM (Fx hit ht hlen λtk=>?_));have N2:gZ s.heap I t ((items.size:Int) - 1 - ((0:Nat):Int)):=by simpa using hit
 refine aaI (λ_=>?_) (λ_=>uZ ⟨abu ab8 _,key _ c₀ _ N2 ht (λb o _ e=>e) hS⟩);refine eZ (acf ?_);refine eZ ?_;show wpAny _ _ (updateSeq S (·.push .none) >>= λ_=>updateSeq S (·.pop)) _ _ _;refine eZ (acw hS rfl ?_);have vh:=aaP (Obj.mapSeq (·.push Value.none)) hS rfl;refine acw (hz:=by seq_fits) vh rfl ?_;have RL:=aaP (Obj.mapSeq (·.pop)) vh rfl;have ot:∀b o,b≠S->s.heap.get? b=some o->((s.heap.update S (Obj.mapSeq (·.push Value.none))).update S (Obj.mapSeq (·.pop))).get? b=some o:=λb o hb e=>(aa8 _ _ (aa1 hb)).trans ((aa8 _ _ (aa1 hb)).trans e);exact uZ ⟨abu ab8 _,key _ _ _ (N2.at λo e=>ot _ _ (aa1 hSI) e) (o6 ht λo e=>ot _ _ (aa1 hSt) e) ot RL⟩
def Fy{R:Result->Shared->Prop}{I t:Addr}{items:Array Value}(hh:A.handled=none)(hit:gZ s.heap I t ((items.size:Int) - 1))(ht:IsTup s.heap t items)(hne:t≠I)(hlen:items.size<=sizeLine)
  (S:Addr) (hSI:S≠I) (hSt:S≠t) (hS:s.heap.get? S=some { cls:=.type "list",data:=.seq #[]})
  (hR:∀h' tk acc' c',(∀b o,b≠S->b≠I->s.heap.get? b=some o->h'.get? b=some o)->h'.get? S=some { cls:=.type "list",dict:=none,data:=.seq acc' c',slots:=#[]}->
   ItemsOf (λi v=>items[items.size - 1 - i]?=some v) acc' items.size->R (.ok (.ret .none)) { s with heap:=h',toks:=tk }) :
  wpAny (model prog w) A.in1 (Builtin.«list.__init__» ⟨[.ref S,.ref I],[]⟩)
   (λfin s'=>match fin with|.done f=>R (.ok f) s'|.again c'=>c'.quiet=true/\codeAny (model prog w) A c' R s') (λe s'=>R (.error e) s') s:=by
 show wpAny _ _ (do let old <-Builtin.List.listItems (.ref S);Builtin.List.listUpdate (.ref S) (λ_=>#[]);letGo old.toList.reverse;Builtin.List.listExtendWith (.ref S) (.ref I) .none) _ _ s;refine eZ ?_;unfold Builtin.List.listItems;refine eZ (wpAny_seqItems hS rfl (uZ ?_));show wpAny _ _ (updateSeq S (λ_=>#[]) >>= λ_=>letGo (#[]:Array Value).toList.reverse >>= λ_=>Builtin.List.listExtendWith (.ref S) (.ref I) .none) _ _ s;refine eZ (acw hS rfl ?_);have vh:=aaP (Obj.mapSeq (λ_=>(#[]:Array Value))) hS rfl;have N3:∀b o,b≠S->s.heap.get? b=some o->(s.heap.update S (Obj.mapSeq (λ_=>(#[]:Array Value)))).get? b=some o:=
  λb o hb e=>(aa8 _ _ (aa1 hb)).trans e
 refine eZ (wpAny_letGo ?_);refine Bb hh (hit.at λo e=>N3 _ _ (aa1 hSI) e) (o6 ht λo e=>N3 _ _ (aa1 hSt) e) hne hlen S hSI hSt .none _ vh λh' tk acc' c' hk hS' hacc=>?_;exact hR h' tk acc' c' (λb o hb hb2 e=>hk b o hb hb2 (N3 b o hb e)) hS' hacc
def vc{Q:Value->Shared->Prop}{I t:Addr}{items:Array Value}(hh:A.handled=none)(hit:gZ s.heap I t ((items.size:Int) - 1))(ht:IsTup s.heap t items)(hne:t≠I)(hlen:items.size<=sizeLine)
  (hQ:∀h' tk acc' c',(∀b o,b≠I->s.heap.get? b=some o->h'.get? b=some o)->
   h'.get? s.heap.objs.size=some { cls:=.type "list",dict:=none,data:=.seq acc' c',slots:=#[]}->ItemsOf (λi v=>items[items.size - 1 - i]?=some v) acc' items.size->Q (.ref s.heap.objs.size) { s with heap:=h',toks:=tk }) :
  wpAny (model prog w) A (call (.type "list") [.ref I]) Q E s:=by
 refine acE (Q₁:=λobj s₁=>obj=.ref s.heap.objs.size/\s₁={ s with heap:=s.heap.push { cls:=.type "list",data:=.seq #[]}}) F.called_list (F.typeCall_list_1 _) F.entry_list_init
  (code_list_new _ ⟨rfl,rfl⟩) λobj s₁ h₁=>?_
 obtain⟨rfl,rfl⟩:=h₁;have hS:(s.heap.push { cls:=.type "list",data:=.seq #[]}).get? s.heap.objs.size=some { cls:=.type "list",data:=.seq #[]}:=aac _ rfl;have hI:I<s.heap.objs.size:=by obtain⟨o,ho,_⟩:=hit;exact V3 ho
 have hT:t<s.heap.objs.size:=by obtain⟨o,ho,_⟩:=ht;exact V3 ho
 refine⟨⟨_,hS,rfl⟩,F.args_list_init_2 _ _,Fy (A:=A.in1) hh (hit.at λo e=>vz _ e) (o6 ht λo e=>vz _ e) hne hlen _ (acP hI) (acP hT) hS λh' tk acc' c' hk hS' hacc=>?_⟩;exact⟨rfl,hQ h' tk acc' c' (λb o hb e=>hk b o (aah (V3 e)) hb (vz _ e)) hS' hacc⟩
end
end Rv
namespace Sm
open PySem PySem.Spec PyProof.Rows L2 PySem.SeqAt
open Ev (D O Hh Fr R aL E Es Eo T S Ss Fl Src bw bq TY BI ME)
section
variable{X:Cx}{G:Tb}{n:Nat}{sc:Scope}{N:List Str}{df:Bool}{m:List Nat}{a b:E}{xa:Expr}{pos:Pos}
def wD{vs:List V}{us:List Value}(r:Vals vs us){acc:Array Value}(h:ItemsOf (λi v=>us.toArray[us.toArray.size - 1 - i]?=some v) acc us.toArray.size):Vals vs.reverse acc.toList:=by
 obtain⟨h1,h2⟩:=h;have e:acc.toList=us.reverse:=by
  apply List.ext_getElem?;intro i;by_cases hi:i<us.length
  .have ha:i<acc.size:=by rw[h1];simpa using hi
   have:=h2 i _ (acm ha);rw[List.getElem?_reverse hi];simp only[iy,List.getElem?_toArray]at this;rw[this];simp[ha]
  .have hs:acc.size=us.length:=by rw[h1];simp
   rw[aaw (by rw[abw];omega),aaw (by rw[acN];omega)]
 rw[e];exact Vals.reverse r
def Ko {p p2 pos2:Pos}(ha:JE G n sc N df m a xa) (h1:("list" : Str)∈G.bl:=by decide +kernel) (wu:sc.names.lookup ("list" : Str)=some .globalImplicit:=by rfl)
  (hg:sc.names.lookup ("reversed" : Str)=some .globalImplicit:=by rfl) (hb:("reversed" : Str)∈G.bl:=by decide +kernel)
  (hst:∀env:Env,starEach [xa] env=[(false,eval xa env)]:=by intro _;rfl)
  (wF:∀env:Env,starEach [Expr.Call (.Name "reversed" p2) [xa] [] pos2] env=[(false,eval (Expr.Call (.Name "reversed" p2) [xa] [] pos2) env)]:=by intro _;rfl) :
  JE G n sc N df m (.gU (.rev a)) (.Call (.Name "list" p) [.Call (.Name "reversed" p2) [xa] [] pos2] [] pos):=λX g=>by
 intro pins s σ H Q I q;obtain⟨r,fr,h,d,h',sr,hr,e,q⟩:=q;rw[Ev.ev,Ev.cy]at e;replace e:=Ev.ah e;obtain⟨src,h3,e1,e⟩:=e;replace e1:=Ev.ah e1;obtain⟨x,h4,e2,e1⟩:=e1;replace e1:=Ev.aM e1;obtain⟨e1,y0⟩:=e1;subst y0;refine aaO (iV I (g.gl wu) (g.bl _ h1) (show bootBuiltins ("list" : Str)=some (.type "list")by decide +kernel) ?_ (by decide) (by decide));refine aax ?_ (wF _) rfl;rw[wF];show wpAny _ _ (spliced ((false,eval (Expr.Call (.Name "reversed" p2) [xa] [] pos2) X.env) :: backTo pos [])) _ _ s;refine abk ?_;have C6:PA X [xa] _:=dQ (ha X g) g7 (by rw[hst];rfl);refine Call_ (iV I (g.gl hg) (g.bl _ hb) (show bootBuiltins ("reversed" : Str)=some (.type "reversed")by decide +kernel) (aax (bC (C6 pos2 pins s σ H (λvs H1=>∃r1 u,vs=[u]/\RV X.K H1 r1 x u/\HR X.K H1 r1 h3/\Fm X.K r r1 H H1) I ⟨r,fr,h,x,h3,sr,hr,e2,λu H1 r1 v1 hr1 f1=>⟨r1,u,rfl,v1,hr1,f1⟩⟩) λus s1 z=>?_) (hst _) rfl));obtain⟨vs,H1,I1,rv,r1,u,rfl,v1,hr1,f1⟩:=z;cases x<;>simp only[Ev.E8,Option.map,reduceCtorEq]at e1
 rename_i ds;cases e1;obtain⟨t,ws,rfl,z,w⟩:=v1.shape;cases rv with
 |cons ra rb=>
 cases rb;cases ra;obtain⟨its,pv,pt,hz⟩:=I1.tuple z;have hlen:its.toArray.size<=sizeLine:=by rw[iy,<-pv.length];exact hz
 have hf:(its.toArray.size:Int)<2 ^ 63:=by rw[aaS]at hlen;omega
 refine Rv.Fw pt hf ?_;refine abm ?_;have I2:Inv X pins σ H1 { s1 with heap:=s1.heap.push (Rv.o5 t ((its.toArray.size:Int) - 1)),toks:=s1.toks+1+1 }:=I1.kept λb o e=>vz _ e;have hne:t≠s1.heap.objs.size:=by obtain⟨o,ho,_⟩:=pt;exact aah (V3 ho)
 refine Rv.vc (I1.ok.hd g.calm) ⟨_,aac _ rfl,rfl,rfl⟩ (Rv.o6 pt λo e=>vz _ e) hne hlen λh' tk acc' c' hk hS' hacc=>?_;obtain⟨hz2,q2⟩:=(q.later f1).lst e w.reverse hr1;have hp:s1.heap.objs.size<=(s1.heap.push (Rv.o5 t ((its.toArray.size:Int) - 1))).objs.size:=by rw[size_push'];exact acW _
 refine⟨.ref _,_,I1.laid (t':=tk) (o:=.lst ws.reverse) (λb u e=>hk b u (aah (V3 e)) (vz _ e)) hp ?_,rfl,q2 _ (I1.hok.fresh hp)⟩;exact⟨by simpa using hz,acc'.toList,c',wD pv hacc,by simpa using hS'⟩
end
end Sm
namespace Rv
open PySem PySem.Spec PyProof.Rows
section
variable{prog:Program}{w:World}{A:Around}{E:Value->Shared->Prop}{s:Shared}
def C7:typeLookup (.type "list_reverseiterator") "__len__" = pure none:=by rw[aaU,aaB];kernel_rfl
def Fz:typeLookup (.type "list_reverseiterator") "__length_hint__" = pure (some (.builtin "list_reverseiterator.__length_hint__")):=by rw[aaU,aaB];kernel_rfl
def yw{Q:List Value->Shared->Prop}{I:Addr}{fp wr:List Addr}{G:Array GenState->Array GenState->Prop}{n:Nat}{P:Nat->Value->Prop}{St:Nat->Shared->Prop}
  (W:WalksS prog w A.in1 I fp wr G n P St) (hT:∀i s,St i s->s.TypeIs (.ref I) "list_reverseiterator") (hst:St 0 s) (hfp:∀b∈fp,b<s.heap.objs.size) (hI:I∈fp)
  (hQ:∀s' acc,Moved wr G s s'->ItemsOf P acc n->Q acc.toList s') (hn:n<=sizeLine):wpAny (model prog w) A (collect (.ref I)) Q E s:=by
 have hSf:s.heap.objs.size∉fp:=λhm=>aaK _ (hfp _ hm);have hSI:s.heap.objs.size≠I:=λe=>hSf (e▸hI);unfold collect;refine eZ (wpAny_runValue (aby F.entry_proto_collect ?_));rw[abr F.plain_proto_collect _];show wpAny _ A.in1 (newList [] >>= λl=>again (.builtin "list.__iadd__" ⟨[l,.ref I],[]⟩)) _ _ s;refine eZ (aaA ?_);refine uZ ⟨abu F.plain_list_iadd _,aby F.entry_list_iadd ?_⟩;rw[abr F.plain_list_iadd _];have lV:=W.frame 0 s (s.heap.push { cls:=.type "list",data:=.seq ([]:List Value).toArray }) s.toks hst (Ad _) λb _ o e=>vz _ e;have Bc:(s.heap.push { cls:=.type "list",data:=.seq ([]:List Value).toArray }).get? s.heap.objs.size=some { cls:=.type "list",data:=.seq ([]:List Value).toArray }:=aac _ rfl;have h1:Builtin.List.listSameRef (.ref s.heap.objs.size) (.ref I)=false:=by simp[Builtin.List.listSameRef,hSI]
 show wpAny _ A.in1 (Builtin.List.listExtendWith (.ref s.heap.objs.size) (.ref I) (.ref s.heap.objs.size)) _ _ _;unfold Builtin.List.listExtendWith;refine eZ (abz (hT 0 _ lV) ?_);rw[Yv (by rw[h1];decide)];refine eZ (W.self 0 _ _ _ lV ?_);refine eZ (aaM ?_);unfold Builtin.List.listLengthHint;refine eZ (aaT (hT 0 _ lV) C7 ?_);show wpAny _ A.in1 (specialOf (Value.ref I) (Str.ofString "__length_hint__") >>= _) _ _ _;refine eZ (aaT (hT 0 _ lV) Fz ?_);generalize hid:("list_reverseiterator.__length_hint__" : String)=NY
 wp_delta
 rw[show splitId NY=some ("list_reverseiterator","__length_hint__")from by subst hid;decide +kernel];subst hid;refine eZ (abS (b:=true) (hT 0 _ lV) (by rw[abf];kernel_rfl) ?_);refine uZ ?_;rw[Yv (by decide)];refine uZ ⟨abu ab8 _,codeAny_extend_loopS W hn _ hSf _ n 0 _ _ _ rfl (aa7 _) lV Bc (ItemsOf.nil P) λs' acc' c' hm hS' hacc=>?_⟩;show wpAny _ A (load s.heap.objs.size >>= _) _ _ s';refine eZ (wpAny_load hS' ?_);exact uZ (hQ s' acc' (Moved.drop_new (o:={ cls:=.type "list",data:=.seq ([]:List Value).toArray }) (tk:=s.toks) hm (Ad _)) hacc)
def tD{Q₁:Value->Shared->Prop}{I:Addr}{fp wr:List Addr}{G:Array GenState->Array GenState->Prop}{n:Nat}{P:Nat->Value->Prop}{St:Nat->Shared->Prop}
  (W:WalksS prog w A.in1.in1 I fp wr G n P St) (hT:∀i s,St i s->s.TypeIs (.ref I) "list_reverseiterator") (hst:St 0 s) (hfp:∀b∈fp,b<s.heap.objs.size) (hI:I∈fp)
  (h:∀s' acc,Moved wr G s s'->ItemsOf P acc n->Q₁ (.ref s'.heap.objs.size) { s' with heap:=s'.heap.push { cls:=.type "tuple",data:=.seq acc }}) (hsz:n<=sizeLine) :
  codeAny (model prog w) A (.call (.builtin "tuple.__new__") ⟨[.type "tuple",.ref I],[]⟩) (wants Q₁ E) s:=by
 refine codeAny_of_tree ?_;show wpAny _ A.in1 (do checkBuiltinCall "tuple.__new__" ⟨[.type "tuple",.ref I],[]⟩;again (.builtin "tuple.__new__" ⟨[.type "tuple",.ref I],[]⟩)) _ _ s;refine eZ (aa5 (F.newCall_tuple_1 _) (uZ ⟨abu F.plain_tuple_new _,aby F.entry_tuple_new ?_⟩));rw[abr F.plain_tuple_new _];have hsub:=sub_tuple_self;have YK:=init_tuple_lookup;have YS:=madeHere_tuple;have hTI:=hT 0 s hst
 wp_walk using abz hTI,yw (hn:=hsz) W hT hst hfp hI
 intro s' acc hm hacc;show wpAny _ _ (Builtin.Tuple.tupleExact acc.toList.toArray >>= λv=>ret v) _ _ _;unfold Builtin.Tuple.tupleExact;refine eZ (aaA ?_ (by show acc.toList.toArray.size<=sizeLine;simp only[Array.toArray_toList];rw[hacc.1];exact hsz));refine uZ ?_;have e:acc.toList.toArray=acc:=by simp
 rw[e];exact h s' acc hm hacc
def tE{Q:Value->Shared->Prop}{I:Addr}{fp wr:List Addr}{G:Array GenState->Array GenState->Prop}{n:Nat}{P:Nat->Value->Prop}{St:Nat->Shared->Prop}
  (W:WalksS prog w A.in1.in1.in1 I fp wr G n P St) (hT:∀i s,St i s->s.TypeIs (.ref I) "list_reverseiterator") (hst:St 0 s) (hfp:∀b∈fp,b<s.heap.objs.size) (hI:I∈fp)
  (hQ:∀s' acc,Moved wr G s s'->ItemsOf P acc n->Q (.ref s'.heap.objs.size) { s' with heap:=s'.heap.push { cls:=.type "tuple",data:=.seq acc }}) (hsz:n<=sizeLine) :
  wpAny (model prog w) A (call (.type "tuple") [.ref I]) Q E s:=by
 refine acE (Q₁:=λobj s₁=>s₁.TypeIs obj "tuple" /\Q obj s₁) F.called_tuple (F.typeCall_tuple_1 _) F.entry_object_init
  (tD (hsz:=hsz) W hT hst hfp hI λs' acc hm hacc=>⟨⟨_,aac _ rfl,rfl⟩,hQ s' acc hm hacc⟩) λobj s₁ h₁=>?_
 exact⟨h₁.1,F.args_object_init_2 obj _,object_init_meets F.called_tuple.init.lookup F.called_tuple.made (by decide) prog w A.in1 _ s₁ ⟨h₁.1,rfl,h₁.2⟩⟩
def tG{Q:Value->Shared->Prop}{I l:Addr}{items:Array Value}(hh:A.handled=none)(hit:s.heap.IsRevIter I l ((items.size:Int) - 1))(hl:s.heap.IsList l items)(hne:l≠I)(hlen:items.size<=sizeLine)
  (hQ:∀(h':Heap) (tk:Nat) (acc:Array Value),(∀b o,b≠I->s.heap.get? b=some o->h'.get? b=some o)->ItemsOf (λi v=>items[items.size - 1 - i]?=some v) acc items.size->
   Q (.ref h'.objs.size) { s with heap:=h'.push { cls:=.type "tuple",data:=.seq acc },toks:=tk }):wpAny (model prog w) A (call (.type "tuple") [.ref I]) Q E s:=by
 have W:=(Walks.listRev (prog:=prog) (w:=w) (A:=A.in1.in1.in1) hh I l hne items).toS;refine tE W (λi s x=>x.2.1.typeIs) ⟨aa7 _,by simpa using hit,hl⟩ (λb hb=>?_) (by simp) (λs' acc hm hacc=>?_) hlen
 .rcases List.mem_cons.mp hb with rfl|hb
  .obtain⟨o,ho,_⟩:=hit;exact V3 ho
  .rw[List.mem_singleton.mp hb];obtain⟨o,ho,_⟩:=hl;exact V3 ho
 .rw[Moved.eq_with hm];exact hQ s'.heap s'.toks acc (λb o hb e=>hm.heap b o (λhmem=>hb (List.mem_singleton.mp hmem)) e) hacc
end
end Rv
namespace Sm
open PySem PySem.Spec PyProof.Rows L2 PySem.SeqAt
open Ev (D O Hh Fr R aL E Es Eo T S Ss Fl Src bw bq TY BI ME)
section
variable{X:Cx}{G:Tb}{n:Nat}{sc:Scope}{N:List Str}{df:Bool}{m:List Nat}{a b:E}{xa:Expr}{pos:Pos}
def N4 {p p2 pos2:Pos}(ha:JE G n sc N df m a xa) (h1:("tuple" : Str)∈G.bl:=by decide +kernel) (wu:sc.names.lookup ("tuple" : Str)=some .globalImplicit:=by rfl)
  (hg:sc.names.lookup ("reversed" : Str)=some .globalImplicit:=by rfl) (hb:("reversed" : Str)∈G.bl:=by decide +kernel)
  (hst:∀env:Env,starEach [xa] env=[(false,eval xa env)]:=by intro _;rfl)
  (wF:∀env:Env,starEach [Expr.Call (.Name "reversed" p2) [xa] [] pos2] env=[(false,eval (Expr.Call (.Name "reversed" p2) [xa] [] pos2) env)]:=by intro _;rfl) :
  JE G n sc N df m (.jS a) (.Call (.Name "tuple" p) [.Call (.Name "reversed" p2) [xa] [] pos2] [] pos):=λX g=>by
 intro pins s σ H Q I q;obtain⟨r,fr,h,d,h',sr,hr,e,q⟩:=q;rw[Ev.ev]at e;replace e:=Ev.ah e;obtain⟨x,h3,e2,e⟩:=e;refine aaO (iV I (g.gl wu) (g.bl _ h1) (show bootBuiltins ("tuple" : Str)=some (.type "tuple")by decide +kernel) ?_ (by decide) (by decide));refine aax ?_ (wF _) rfl;rw[wF];show wpAny _ _ (spliced ((false,eval (Expr.Call (.Name "reversed" p2) [xa] [] pos2) X.env) :: backTo pos [])) _ _ s;refine abk ?_;have C6:PA X [xa] _:=dQ (ha X g) g7 (by rw[hst];rfl);refine Call_ (iV I (g.gl hg) (g.bl _ hb) (show bootBuiltins ("reversed" : Str)=some (.type "reversed")by decide +kernel) (aax (bC (C6 pos2 pins s σ H (λvs H1=>∃r1 u,vs=[u]/\RV X.K H1 r1 x u/\HR X.K H1 r1 h3/\Fm X.K r r1 H H1) I ⟨r,fr,h,x,h3,sr,hr,e2,λu H1 r1 v1 hr1 f1=>⟨r1,u,rfl,v1,hr1,f1⟩⟩) λus s1 z=>?_) (hst _) rfl));obtain⟨vs,H1,I1,rv,r1,u,rfl,v1,hr1,f1⟩:=z;cases x<;>simp only[Ev.AN,reduceCtorEq]at e
 rename_i i;split at e
 .rename_i ds e1;split at e
  .cases e;obtain⟨t,rfl,z⟩:=v1.shape;obtain⟨t',ws,z',q1,w⟩:=hr1.read e1;rw[z]at z';cases z';cases rv with
   |cons ra rb=>
   cases rb;cases ra;obtain⟨its,pv,pl,hz⟩:=I1.list q1;have hlen:its.toArray.size<=sizeLine:=by rw[iy,<-pv.length];exact hz
   refine call_reversed_list pl.isList ?_;refine abm ?_;have I2:Inv X pins σ H1 { s1 with heap:=s1.heap.push (revObj t ((its.toArray.size:Int) - 1))}:=I1.kept λb o e=>vz _ e;have hne:t≠s1.heap.objs.size:=by obtain⟨o,ho,_⟩:=pl.isList;exact aah (V3 ho)
   refine Rv.tG (I1.ok.hd g.calm) ⟨_,aac _ rfl,rfl,rfl⟩ (pl.isList.at λo e=>vz _ e) hne hlen λh4 tk acc hk hacc=>?_;have I3:Inv X pins σ H1 { s1 with heap:=h4 }:=I1.kept λb o e=>hk b o (aah (V3 e)) (vz _ e);have I4:Inv X pins σ (upd H1 h4.objs.size (.tup ws.reverse)) { s1 with heap:=h4.push { cls:=.type "tuple",data:=.seq acc },toks:=tk }:=
    I3.laid (t':=tk) (λb o e=>vz _ e) (Ad _) (show cR X.prog X.w _ _ _ (.tup ws.reverse)from ⟨by simpa using hz,acc.toList,wD pv hacc,by simpa using IsTup.new h4 acc⟩)
   exact⟨.ref h4.objs.size,_,I4,rfl,(q.later f1).tup w.reverse hr1 (I3.hok.fresh (Ad _))⟩
  .cases e
 .cases e
end
noncomputable def Um(K:PySem.W.Frag)(a:Addr):L2.It:=
  ⟨λi H=>∃xs x,eL K H a xs/\xs[i]?=some x,
   λi H x H'=>∃p u,H p=none/\x=.ref p/\H'=upd H p (.tup [.int i,u])/\∀xs,eL K H a xs->xs[i]?=some u,
   λi H=>∃xs,eL K H a xs/\xs.length<=i⟩
def C8{P:Program}{w:World}{K:PySem.W.Frag}{elts:List Expr}{x1}{pos:Pos}{l e it:Addr}(hne:e≠it) :
  Turn P w K (.Tuple elts x1 pos) (Um K l) [e,it] e (λi h=>(∃old,IsEnum h e it i old)/\h.IsListIter it l i) where
 mem:=by simp
 obj:=λi h st b hb=>by
  obtain⟨⟨old,s1⟩,s2⟩:=st;simp only[aaY,abp,acG]at hb;rcases hb with rfl|rfl
  .exact⟨_,s1,λv z=>by have z':Data.fields _=Data.cell v:=z;cases z'⟩
  .obtain⟨o,e,c,d⟩:=s2;exact⟨o,e,λv z=>by rw[d]at z;cases z⟩
 keep:=λi h h' st k=>by
  obtain⟨⟨old,s1⟩,s2⟩:=st;exact⟨⟨old,k e (by simp) _ s1⟩,s2.at λo e=>k it (by simp) o e⟩
 item:=by
  intro X hP hw hK hc i pins s σ H E I hf st hg;subst hP hw hK;obtain⟨⟨old,s1⟩,s2⟩:=st;obtain⟨xs,x,hx,ex⟩:=hg;obtain⟨xt,rx,px,_⟩:=I.list hx;obtain⟨u,hu,ru⟩:=rx.get ex;refine wpAny_pyNext_enum_item s1 s2 px.isList (x:=u) (by simpa using hu) hne λh' a1 a2 a3 a4 hk=>?_;refine⟨_,rfl,wpAny_letOwnedTupleGo_enum (s:={ s with heap:=h',toks:=s.toks+1 }) a1 λh'' b1 b2=>?_⟩;have lt:∀{c o},s.heap.get? c=some o->c≠s.heap.objs.size:=λe=>aah (V3 e);have hT:H s.heap.objs.size=none:=I.hok.fresh (Ad _);have I0:Inv X pins σ (upd H s.heap.objs.size (.tup [.int i,x])) { s with heap:=s.heap.push { cls:=.type "tuple",data:=.seq #[.int i s.toks,u]},toks:=s.toks+1 }:=
   I.laid (λb o e=>vz _ e) (Ad _) ⟨by show 2<=sizeLine;decide,[.int i s.toks,u],.cons ⟨_,rfl⟩ (.cons ru .nil),⟨_,aac _ rfl,rfl,_,rfl⟩⟩
  have ne:∀b∈[e,it],b≠s.heap.objs.size:=λb hb=>by
   simp only[aaY,abp,acG]at hb;rcases hb with rfl|rfl
   .exact lt s1
   .obtain⟨o,e,_⟩:=s2;exact lt e
  have fp:∀b∈[e,it],gX X pins (upd H s.heap.objs.size (.tup [.int i,x])) b:=λb hb=>⟨by rw[bf (ne b hb)];exact(hf b hb).1,(hf b hb).2⟩
  have I1:Inv X pins σ (upd H s.heap.objs.size (.tup [.int i,x])) { s with heap:=h'',toks:=s.toks+1 }:=by
   refine zo (s:={ s with heap:=s.heap.push { cls:=.type "tuple",data:=.seq #[.int i s.toks,u]},toks:=s.toks+1 }) (ch:=[e,it]) I0 (λb o hb e=>?_) fp;simp only[aaY,abp,acG,not_or]at hb;refine b2.extBut _ _ hb.1 ?_;by_cases hT:b=s.heap.objs.size
   .subst hT;have e':(s.heap.push { cls:=.type "tuple",data:=.seq #[.int i s.toks,u]}).get? s.heap.objs.size=some o:=e;rw[aac _ rfl]at e';cases e';exact a3
   .refine hk b o hb.1 hb.2 ?_;have e':(s.heap.push { cls:=.type "tuple",data:=.seq #[.int i s.toks,u]}).get? b=some o:=e;rw[Heap.get?_push_ne _ _ _ hT]at e';exact e'
  refine⟨.ref s.heap.objs.size,_,I1,rfl,⟨s.heap.objs.size,x,hT,rfl,rfl,λxs' h=>by rw[I.vH h hx];exact ex⟩,?_,λb hb=>(fp b hb).1⟩;exact⟨⟨_,by simpa using b1⟩,a2.extBut b2.extBut (aa1 hne)⟩
 done:=by
  intro X hP hw hK hc i pins s σ H E I hf st hg;subst hP hw hK;obtain⟨⟨old,s1⟩,s2⟩:=st;obtain⟨xs,hx,hl⟩:=hg;obtain⟨xt,rx,px,_⟩:=I.list hx;have hl1:=rx.length;refine wpAny_pyNext_enum_end (I.ok.hd hc) s1 s2 px.isList (by simp;omega) λh' hk=>⟨rfl,?_⟩
  refine zo (ch:=[e,it]) (t':=s.toks) I (λb o hb e=>?_) hf;simp only[aaY,abp,acG,not_or]at hb;exact hk b o hb.2 e
 self:=λ_ _ _ _ _ st h=>by obtain⟨⟨old,s1⟩,s2⟩:=st;exact wpAny_pyIter_enum s1 h
theorem wG:∀{ds:List D}{k:Int}{i:Nat}{d:D},(Ev.cD k ds)[i]?=some d->∃x,ds[i]?=some x/\d=.tup [.int (k+i),x]
 |[],_,_,_,e=>by simp[Ev.cD]at e
 |x :: ds,k,0,d,e=>by simp[Ev.cD]at e;exact⟨x,by simp,by simp[e]⟩
 |x :: ds,k,i+1,d,e=>by
  simp only[Ev.cD,List.getElem?_cons_succ]at e;obtain⟨y,h1,h2⟩:=wG e;refine⟨y,by simpa using h1,?_⟩;rw[h2];have:k+1+(i:Int)=k+((i+1:Nat):Int):=by omega
  rw[this]
theorem wH:∀(ds:List D) (k:Int),(Ev.cD k ds).length=ds.length
 |[],_=>rfl
 |_ :: ds,k=>by simp[Ev.cD,wH ds]
def Kp{K:PySem.W.Frag}{r:List Addr}{H:Hp}{h:Hh}{n1:Nat}{a1:Addr}{ds:List D}(z1:r[n1]?=some a1):qj K r H (Ev.cD 0 ds,[(n1,ds)]) (Um K a1):=λi H1 r1 h1 hr1 f1 st=>by
 obtain⟨b1,vs,e1,e2,e3⟩:=hr1.read (uG st);rw[f1.pre _ _ z1]at e1;cases e1;refine⟨λd e=>?_,λhl=>?_⟩
 .obtain⟨x,k1,rfl⟩:=wG e;obtain⟨u,p1,p2⟩:=e3.get k1;refine⟨⟨vs,u,e2,p1⟩,λX H2 y=>?_⟩;obtain⟨p,u',hp,rfl,rfl,hu⟩:=y;have Uo:=hu vs e2;rw[p1]at Uo;cases Uo;exact⟨r1,⟨p,[.int i,u],rfl,.of cz,.cons (by simp[RV]) (.cons (p2.mono (.tup hp)) .nil)⟩,hr1.tup hp,.tup hp⟩
 .refine⟨vs,e2,?_⟩;have:=e3.length;have hl':(Ev.cD 0 ds).length<=i:=hl;rw[wH]at hl';omega
section
variable{G:Tb}{n:Nat}{sc:Scope}{N:List Str}{df:Bool}{m:List Nat}{a b:E}{xa:Expr}{pos:Pos}
def Kq {elts:List Expr}{x1}{tpos p:Pos}(ha:JE G n sc N df m a xa) (hg:sc.names.lookup ("enumerate" : Str)=some .globalImplicit:=by rfl) (Up:("enumerate" : Str)∈G.bl:=by decide +kernel)
  (hst:∀env:Env,starEach [xa] env=[(false,eval xa env)]:=by intro _;rfl) :
  JI G n sc N df m (.enum a) (.Tuple elts x1 tpos) (.Call (.Name "enumerate" p) [xa] [] pos):=λX g=>by
 intro pins s σ H Rr I q;obtain⟨r,fr,h,src,h',sr,hr,e,q⟩:=q;rw[Ev.cy]at e;replace e:=Ev.ah e;obtain⟨x,h1,e1,e⟩:=e;replace e:=Ev.aM e;obtain⟨e,y0⟩:=e;subst y0;have C6:PA X [xa] _:=dQ (ha X g) g7 (by rw[hst];rfl);refine Call_ (iV I (g.gl hg) (g.bl _ Up) (show bootBuiltins ("enumerate" : Str)=some (.type "enumerate")by decide +kernel) (aax (bC (C6 pos pins s σ H (λvs H1=>∃r1 u,vs=[u]/\RV X.K H1 r1 x u/\HR X.K H1 r1 h'/\Fm X.K r r1 H H1) I ⟨r,fr,h,x,h',sr,hr,e1,λu H1 r1 v1 hr1 f1=>⟨r1,u,rfl,v1,hr1,f1⟩⟩) λus s1 z=>?_) (hst _) rfl));obtain⟨vs,H1,I1,rv,r1,u,rfl,v1,hr1,f1⟩:=z;simp only[gV]at e;obtain⟨s1',k1,rfl⟩:=e;cases x<;>simp only[Ev.AO,reduceCtorEq,gV]at k1
 rename_i n1;obtain⟨ds,k1,rfl⟩:=k1;obtain⟨a1,rfl,z1⟩:=v1.shape;obtain⟨b1,xs,w1,w2,w3⟩:=hr1.read k1;rw[z1]at w1;cases w1;cases rv with
 |cons ra rb=>
 cases rb;cases ra;obtain⟨xt,_,px,_⟩:=I1.list w2;refine call_enumerate_list px.isList λhp c1 c2 c3 c4=>?_;have I2:Inv X pins σ H1 { s1 with heap:=hp,toks:=s1.toks }:=I1.kept c4;have nb:∀b∈[s1.heap.objs.size+1,s1.heap.objs.size],s1.heap.objs.size<=b:=λb hb=>by
  simp only[aaY,abp,acG]at hb;rcases hb with rfl|rfl
  .exact acW _
  .exact Ad _
 exact wpAny_pyIter_enum c1 ⟨_,[s1.heap.objs.size+1,s1.heap.objs.size],_,_,H1,rfl,I2,C8 (Nat.succ_ne_self _),⟨⟨_,c1⟩,c2⟩,λb hb=>I1.Aw (nb b hb) (I1.hok.fresh (nb b hb)),q _ H1 r1 hr1 f1 (Kp (h:=h') z1)⟩
end
theorem aJ.ofInts{K:PySem.W.Frag}{H:Hp}{r:List Addr}:∀ns:List Int,aJ K H r (ns.map D.int) (ns.map V.int)
 |[]=>.nil
 |_ :: l=>.cons rfl (aJ.ofInts l)
def N5{K:PySem.W.Frag}{H:Hp}{a:Addr}{vs:List V}(hO:sQ H)(hS:eL K H a vs):AR K H a vs:=by
 rcases hS with h|h
 .rcases h with h|⟨o,h⟩
  .rcases hO a with q|⟨o,xs,q⟩
   .rw[q]at h;cases h
   .rw[q]at h;cases h
  .exact .inl ⟨o,h⟩
 .exact .inr h
def RM{K:PySem.W.Frag}{F:List Ev.Fn}{w n f:Nat}{H:Hp}{a:Addr}{ns:List Int}(hO:sQ H)(hS:eL K H a (ns.map V.int)){h':Hh}(e:Ev.run F w n f [.ref 0] [.bY (ns.map D.int)]=.ok (.bl true) h') :
  nj K F w n f [.ref a] H (λv _=>v=.bl true) λ_ _ _=>False:=by
 refine⟨[a],[.bY (ns.map D.int)],[.ref 0],.bl true,h',.cons (show RV K H [a] (.ref 0) (.ref a)from ⟨a,rfl,rfl⟩) .nil,⟨rfl,λk o hk=>?_,λk l b x y _ _ hk _=>?_
  ⟩,e,λv H' r' v1 _ _=>v1⟩
 .cases k with
  |zero=>
   simp at hk;subst hk;exact⟨a,rfl,_,N5 hO hS,aJ.ofInts ns⟩
  |succ k=>simp at hk
 .cases k with
  |zero=>simp at hk
  |succ k=>simp at hk
def Kr{F:List Ev.Fn}{wh n f:Nat}{l:PySem.W.OpenLaw}{q:Program}{loose:List Str}{XP:(Str->Option Value)->Heap->Prop}{YP:World->Heap->Prop}{d:DefRec}{K:Params->PySem.W.Frag}{x:Str}(hn:l.most=some 63)(hdf:d.params.defaults=[])(hr:fL n callerA)
  (hY:∀(w:World) (h:Heap),YP w h->(K w.params).In h) (good:∀ns:List Int,ns.length<=63->∃h',Ev.run F wh n f [.ref 0] [.bY (ns.map D.int)]=.ok (.bl true) h')
  (Fo:∀(w:World) (mg:Str->Option Value) (fa:Addr) (h:Heap),(K w.params).In h->h.Ns mainGlobals mg->mg d.name=some (.ref fa)->
   ∃fd:FuncData,(∀(s:Shared) (u:Value),BindsTo s fd ⟨[u],[]⟩ [(x,u)])/\∀base:Heap,(K w.params).In base->base.Ns mainGlobals mg->fM l.prog w (K w.params) mg base jR n fa fd [x] (nj (K w.params) F wh n f)) :
  PySem.W.WalkO q loose XP YP l.row.toRowW d [] (λf vs=>PySem.call f vs):=
 L2.E3 (n:=63) (k:=n) (x:=x) (CX:=jR) (sp:=λK=>nj K F wh n f) hn (by decide) hdf hr hY Fo (λK H a ns hl hO hS=>by
  obtain⟨h',e⟩:=good ns hl;exact RM hO hS e) λ_ _ _ _ z=>z
end Sm
namespace Sm
open PySem PySem.Spec PyProof.Rows L2
open Ev (D O Hh Fr R aL E Es Eo It T S Ss Fl Src bw bq TY BI ME)
section
variable{G:Tb}{n:Nat}{sc:Scope}{N:List Str}{df:Bool}{m:List Nat}{a b:E}{xa xb:Expr}{pos:Pos}
noncomputable def hasB(N:List Str)(m:List Nat)(x:Str)(i:Nat):Bool:=(List.range N.length).any λj=>m[j]?==some i&&N[j]?==some x
def hasB.of{x:Str}{i:Nat}(h:hasB N m x i=true):∃j:Nat,m[j]?=some i/\N[j]?=some x:=by
 obtain⟨j,_,q⟩:=List.any_eq_true.mp h;rw[GY]at q;exact⟨j,by simpa using q.1,by simpa using q.2⟩
noncomputable def vB (sc:Scope) (N:List Str) (m:List Nat) (x:Str) (i:Nat):Bool:=hasB N m x i&&(sc.names.lookup x==some .local ||sc.names.lookup x==some .cell ||sc.names.lookup x==some .free)&&!(x==("__debug__" : Str))&&!(x==("__classdict__" : Str))
def jv{x:Str}{i:Nat}(h:vB sc N m x i=true):JE G n sc N df m (.v i) (.Name x pos):=by
 unfold vB at h;simp only[GY,aaX,aaL]at h;obtain⟨⟨⟨h1,h2⟩,h3⟩,h4⟩:=h;obtain⟨j,e1,e2⟩:=hasB.of h1;exact VC j i e1 e2 (by rcases h2 with (h2|h2)|h2;exact .inl (by simpa using h2);exact .inr (.inl (by simpa using h2));exact .inr (.inr (by simpa using h2))) h3 h4
noncomputable def gB(sc:Scope)(N:List Str)(df:Bool)(m:List Nat)(x:Str)(i:Nat):Bool:=hasB N m x i&&(sc.names.lookup x==some .local || (df&&sc.names.lookup x==some .cell))&&decide m.Nodup&&decide N.Nodup
theorem gB.of{x:Str}{i:Nat}(h:gB sc N df m x i=true):∃j:Nat,m[j]?=some i/\N[j]?=some x/\(sc.names.lookup x=some .local\/(df=true/\sc.names.lookup x=some .cell))/\m.Nodup/\N.Nodup:=by
 unfold gB at h;simp only[GY,aaL]at h;obtain⟨⟨⟨h1,h2⟩,h3⟩,h4⟩:=h;obtain⟨j,e1,e2⟩:=hasB.of h1;exact⟨j,e1,e2,by rcases h2 with h2|⟨h2,h5⟩;exact .inl (by simpa using h2);exact .inr ⟨h2,by simpa using h5⟩,aaG h3,aaG h4⟩
def Xx{x:Str}{i:Nat}(h:gB sc N df m x i=true):JG G n sc N df m (.one i) (.Name x pos):=by
 obtain⟨j,e1,e2,e3,e4,e5⟩:=gB.of h;exact Nf j i e4 e5 e1 e2 e3
def Xy{x:Str}{i:Nat}{l:List Nat}{xs:List Expr}(h:gB sc N df m x i=true)(hs:uH G n sc N df m l xs):uH G n sc N df m (i :: l) (.Name x pos :: xs):=by
 obtain⟨j,e1,e2,e3,e4,e5⟩:=gB.of h;exact Fd j i e4 e5 hs e1 e2 e3
def VM{i:Nat}{x:Str}{pos':Pos}(h:gB sc N df m x i=true)(ha:JE G n sc N df m a xa)(hs:∀env:Env,swapsWith xa (some (.Name x pos')) pos.line env=pure false:=by intro _;rfl):JS G n sc N df m (.set i a) (.Assign [.Name x pos'] xa pos):=by
 obtain⟨j,e1,e2,e3,e4,e5⟩:=gB.of h;exact Ng j i e4 e5 ha hs e1 e2 e3
noncomputable def uS (sc:Scope) (x:Str):Bool:=sc.names.lookup x==some .globalImplicit&&!(x==("__debug__" : Str))
def Uq{f:Nat}{i:FI}{es:Es}{x:Str}{e0:Expr}{xs:List Expr}{p:Pos}(h:uS sc x=true)(hf:G.fi[f]?=some i)(hx:i.name=x)(hs:JA G n sc N df m es (e0 :: xs))
  (hst:∀env:Env,starEach (e0 :: xs) env=(false,eval e0 env) :: starEach xs env:=by intro _;rfl) (hpl:∀env:Env,(backTo pos (starEach xs env)).any (·.1)=false:=by intro _;rfl) :
  JE G n sc N df m (.cl f es) (.Call (.Name x p) (e0 :: xs) [] pos):=by
 subst hx;unfold uS at h;simp only[GY,aaX]at h;exact RE hf hs (by simpa using h.1) h.2 hst hpl
noncomputable def Xz:Expr->List Str
 |.Name x _=>[x]
 |.Tuple xs _ _=>xs.filterMap λy=>match y with|.Name x _=>some x|_=>none
 |_=>[]
noncomputable def Ur(N:List Str)(m:List Nat)(scope:Scope):List (Str×Nat):=(N.zip m).filter λp=>scope.names.contains (p.1,NameKind.free)
noncomputable def cN(N:List Str)(m:List Nat)(scope:Scope)(tg:Expr):List Str:=Xz tg++(Ur N m scope).map (·.1)
noncomputable def cM(N:List Str)(m:List Nat)(scope:Scope)(t:T):List Nat:=Ev.slots t++(Ur N m scope).map (·.2)
def RN{elt:E}{t:T}{it:Ev.It}{cond:Eo}{tg xi xe:Expr}{ifs:List Expr}{scope:Scope}(hn:we sc N m scope t (cN N m scope tg) (cM N m scope t)=true)(hs:Np sc scope=true)
  (hi:JI G n sc N df m it tg xi) (hg:JG G n (jd sc scope) (cN N m scope tg) false (cM N m scope t) t tg) (hc:JC G n (jd sc scope) (cN N m scope tg) false (cM N m scope t) cond ifs)
  (he:JE G n (jd sc scope) (cN N m scope tg) false (cM N m scope t) elt xe) (hf:∀(env:Env) x,foldedSetIterable xi env x=pure x:=by intro _ _;rfl):JE G n sc N df m (.comp elt t it cond) (.ListComp xe [⟨tg,xi,ifs,0⟩] scope pos):=
 J7 hi hg hc he (namesOk.of hn) (nR.of hs) hf
def VN{rest:List Expr}(ha:JT G n sc N df m a xa)(hb:JW G n sc N df m b (.BoolOp .And (xb :: rest) pos)):JT G n sc N df m (.an a b) (.BoolOp .And (xa :: xb :: rest) pos):=MZ (Ht ha hb)
def VO{rest:List Expr}(ha:JT G n sc N df m a xa)(hb:JW G n sc N df m b (.BoolOp .Or (xb :: rest) pos)):JT G n sc N df m (.orr a b) (.BoolOp .Or (xa :: xb :: rest) pos):=MZ (CA ha hb)
noncomputable def allB(G:Tb)(n:Nat):List (Ss×Stmt×List Str)->Prop
 |[]=>True
 |p :: r=>nq G n (aB p.2.1) p.2.2 true (List.range p.2.2.length) p.1 (cG p.2.1)/\allB G n r
theorem allB.get:∀{l:List (Ss×Stmt×List Str)}{k:Nat}{p:Ss×Stmt×List Str},allB G n l->l[k]?=some p->nq G n (aB p.2.1) p.2.2 true (List.range p.2.2.length) p.1 (cG p.2.1)
 |[],_,_,_,e=>nomatch e
 |_ :: _,0,_,h,e=>by cases e;exact h.1
 |_ :: r,k+1,p,h,e=>allB.get (l:=r) (k:=k) h.2 (by simpa using e)
end
end Sm
namespace Sm
open PySem PySem.Spec PyProof.Rows L2 PySem.SeqAt
open Ev (D O Hh Fr R aL E Es Eo T S Ss Fl Src bw bq TY BI ME)
section
variable{a c:E}{pos:Pos}
noncomputable def N6(K:PySem.W.Frag)(kU:List (TE×TE)):TE:=λσ H Q=>∀p,H p=none->K.lookup p=none->qV kU σ (upd H p (.dK [])) λps H2=>H2 p=some (.dK [])/\∃kvs:List (Key×V),ps=kvs.map (λkv=>(kV kv.1,kv.2))/\kvs.length<=15/\Q (.ref p) (upd H2 p (.dK (lU [] kvs)))
def FA{X:Cx}{keys:List (Option Expr)}{values:List Expr}{kU:List (TE×TE)}(h:Cz X pos keys values kU)(hall:keys.all (·.isSome)=true)(hl:keys.length=values.length)(h0:keys≠[])
  (Us:keys.length<=15):PE X (.Dict keys values pos) (N6 X.K kU):=by
 intro pins s σ H Q I q;have hn:=I.hok.fresh (Ad s.heap.objs.size);have hk:X.K.lookup s.heap.objs.size=none:=by
  cases z:X.K.lookup s.heap.objs.size with
  |none=>rfl
  |some o=>exact absurd (V3 (I.jE _ _ z)) (aaK _)
 have I1:=I.laid (a:=s.heap.objs.size) (o:=.dK []) (h':=s.heap.push { cls:=.type "dict",data:=.dict #[]}) (t':=s.toks) (λ_ _ q=>vz _ q) (Ad _) (E5 s.heap I.big);refine wpAny_Dict_walk (knd:=dg X.prog X.w) hall hl h0 Us (bC (h pins _ σ _ _ I1 (q _ hn hk)) λws s2 ⟨ps,H2,I2,rel,e,kvs,ep,lk,q2⟩=>?_);subst ep;obtain⟨rs,c,rk⟩:=qW (P:=X.prog) (w:=X.w) rel;obtain⟨z,hd,YT,r0,dd⟩:=Rt I2.hok e;cases r0;refine⟨rs,c,dd,λh' Ut hs=>⟨.ref s.heap.objs.size,_,?_,rfl,q2⟩⟩;have hz:(lU [] kvs).length<=sizeLine:=by
  have h1:=nh kvs [];rw[acz]at h1;rw[aaS];omega
 have he:∃q,h'.get? s.heap.objs.size=some q:=let ⟨q,_,_,hq,_⟩:=Ut;⟨q,hq⟩;exact JM I2 (by rw[e];exact True.intro) hs he (ML hz hd (rk.merge .nil) Ut)
inductive JP:List (D×D)->List (Option Expr)->List Expr->Prop
 |nil:JP [] [] []
 |cons {k v:List Nat} {x y:Str} {i j} {p q:Pos} {kvs:List (D×D)} {ks:List (Option Expr)} {vs:List Expr} (h:JP kvs ks vs) (hx:x=aQ k:=by decide +kernel) (hy:y=aQ v:=by decide +kernel):JP ((.str k,.str v) :: kvs) (some (.Constant (.str x) i p) :: ks) (.Constant (.str y) j q :: vs)
noncomputable def rj:List (D×D)->List (Key×V)
 | (.str k,.str v) :: r=>(Sum.inr (aQ k),V.str (aQ v)) :: rj r
 |_=>[]
def N7{X:Cx}{kvs:List (D×D)}{ks:List (Option Expr)}{vs:List Expr}(h:JP kvs ks vs):∃kU,Cz X pos ks vs kU/\(∀σ H Q,Q ((rj kvs).map λkv=>(kV kv.1,kv.2)) H->qV kU σ H Q)/\ks.all (·.isSome)=true/\ks.length=vs.length/\ks.length=kvs.length/\(rj kvs).length=kvs.length:=by
 induction h with
 |nil=>exact⟨[],JR,λ_ _ _ h=>h,rfl,rfl,rfl,rfl⟩
 |cons _ hx hy ih=>
  obtain⟨kU,h1,h2,h3,h4,h5,h6⟩:=ih;subst hx;subst hy;exact⟨_,E6 qQ qQ h1,λσ H Q h=>h2 σ H _ h,by simp[h3],by simp[h4],by simp[h5],by simp[rj,h6]⟩
end
def HR.jT{K:PySem.W.Frag}{H:Hp}{r:List Addr}{h:Hh}{p:Addr}{kvs:List (List Nat×List Nat)}(hr:HR K H r h)(hp:H p=none)(h0:kvs≠[])(hl:∀q∈kvs,q.2.length<=sizeLine):HR K (upd H p (.dK (lI kvs))) (r++[p]) (h++[.dw kvs]) where
 len:=by simp[hr.len]
 ob:=λn ob e=>by
  by_cases hn:n<h.length
  .rw[UK hn]at e;obtain⟨a,e1,z⟩:=hr.ob n ob e;exact⟨a,(Fm.laid (K:=K) (o:=.dK (lI kvs)) hp).pre n a e1,z.mono (Fm.laid hp) (λ_ vs _ z=>by rw[bf (bG z hp)];exact z) (λ_ _ z=>by rw[bf (bG z hp)];exact z)
    (λ_ _ z _=>by rw[bf (bG z hp)];exact z)⟩
  .have e2:=(List.getElem?_eq_some_iff.mp e).1;simp only[PX,aav]at e2;have e3:n=h.length:=by omega
   subst e3;simp at e;subst e;exact⟨p,by rw[<-hr.len];simp,cz,h0,hl⟩
 inj:=λn m a x y e1 e2 e3 e4=>by
  have out:∀(k:Nat) z,(h++[O.dw kvs])[k]?=some (.lst z)->(r++[p])[k]?=some a->r[k]?=some a/\h[k]?=some (.lst z):=λk z q1 q2=>by
   by_cases hk:k<h.length
   .rw[UK hk]at q1;rw[UK (by rw[hr.len];exact hk)]at q2;exact⟨q2,q1⟩
   .have e5:=(List.getElem?_eq_some_iff.mp q1).1;simp only[PX,aav]at e5;have e6:k=h.length:=by omega
    subst e6;simp at q1
  exact hr.inj n m a x y (out n x e3 e1).1 (out m y e4 e2).1 (out n x e3 e1).2 (out m y e4 e2).2
abbrev zp(kvs:List (List Nat×List Nat)):List (D×D):=kvs.map λp=>(.str p.1,.str p.2)
theorem C9:∀kvs:List (List Nat×List Nat),rj (zp kvs)=lI kvs
 |[]=>rfl
 |p :: kvs=>by simp only[zp,aaa,rj,lI];exact aab _ (C9 kvs)
def N8(kvs:List (List Nat×List Nat))(k:List Nat):jK (lI kvs) (Sum.inr (aQ k):Key)=(Ev.sS kvs k).map λs=>V.str (aQ s):=by
 unfold jK Ev.sS lI;induction kvs with
 |nil=>rfl
 |cons p kvs ih=>
  simp only[aaa,abb];by_cases h:p.1=k
  .simp[h]
  .rw[aad h,aad (λz=>h (oW (Sum.inr.inj z)))];exact ih
section
variable{G:Tb}{n:Nat}{sc:Scope}{N:List Str}{df:Bool}{m:List Nat}{a b:E}{xa xb:Expr}{pos:Pos}
def N9{kvs:List (List Nat×List Nat)}{keys:List (Option Expr)}{vals:List Expr}(hj:JP (zp kvs) keys vals)(h0:keys≠[]:=by exact λh=>nomatch h)(Us:kvs.length<=15:=by decide)(hl:(kvs.all λp=>decide (p.2.length<=1000))=true:=by decide)
  (Oa:lU [] (rj (zp kvs))=rj (zp kvs):=by decide +kernel):JE G n sc N df m (.jT kvs) (.Dict keys vals pos):=λX g=>by
 obtain⟨kU,p1,p2,p3,p4,p5,p6⟩:=N7 (X:=X) (pos:=pos) hj;rw[aag]at p5;refine PE.of (FA p1 p3 p4 h0 (by omega)) λs H Q q=>?_;obtain⟨r,fr,h,d,h',sr,hr,e,q⟩:=q;simp only[Ev.ev]at e;split at e
 .cases e
 .rename_i hne;cases e;intro p hp hpk;refine p2 _ _ _ ⟨cz,rj (zp kvs),rfl,by rw[p6,aag];omega,?_⟩;rw[Jk,Oa,C9];exact q _ _ (r++[p]) ⟨p,rfl,by rw[<-hr.len];simp⟩ (hr.jT hp hne λz hz=>aaf (by simpa using List.all_eq_true.mp hl z hz) (by rw[aaS];decide)) (Fm.laid hp)
def Ks{h:Hh}{x y d:D}(e:Ev.vU x y h=some d):∃n kvs k s,x=.ref n/\h[n]?=some (.dw kvs)/\y=.str k/\Ev.sS kvs k=some s/\d=.str s:=by
 unfold Ev.vU at e;split at e
 .split at e
  .rename_i z;obtain⟨s,e1,rfl⟩:=Option.map_eq_some_iff.mp e;exact⟨_,_,_,s,rfl,z,rfl,e1,rfl⟩
  .cases e
 .cases e
def Ob(ha:JE G n sc N df m a xa)(hb:JE G n sc N df m b xb)(hs:E4 xb:=by intro _ _;rfl):JE G n sc N df m (.ku a b) (.Subscript xa xb pos):=λX g=>PE.of (JQ (Rq g.room) (ha X g) (hb X g) hs) λs H Q q=>by
 obtain⟨r,fr,h,d,h',sr,hr,e,q⟩:=q;simp only[Ev.ev]at e;obtain⟨x,h1,e1,e9⟩:=Ev.ah e;obtain⟨y,h2,e2,e8⟩:=Ev.ah e9;obtain⟨e7,y0⟩:=Ev.aM e8;subst y0;refine⟨r,fr,h,x,h1,sr,hr,e1,λv H1 r1 v1 hr1 f1=>?_⟩;refine⟨r1,fr,h1,y,_,sr.mono f1,hr1,e2,λu H2 r2 v2 hr2 f2=>?_⟩;obtain⟨i,kvs,k,w,rfl,z,rfl,ew,rfl⟩:=Ks e7;obtain⟨p,z1,z2,_,z3⟩:=hr2.dw z;obtain⟨p',rfl,z4⟩:=v1.mono f2;rw[z1]at z4;cases z4;simp only[RV]at v2;obtain⟨rfl,_⟩:=v2;have hw:∃q0∈kvs,q0.2=w:=by
  unfold Ev.sS at ew;obtain⟨q0,e3,rfl⟩:=Option.map_eq_some_iff.mp ew;exact⟨q0,List.mem_of_find?_eq_some e3,rfl⟩
 obtain⟨q0,zq,rfl⟩:=hw;refine⟨p,.str (aQ q0.2),rfl,?_,q _ H2 r2 ⟨rfl,z3 q0 zq⟩ hr2 (f1.trans f2)⟩;have:=sR.k (k:=Sum.inr (aQ k)) z2;rw[N8,ew]at this;exact this
end
end Sm
namespace Sm
open PySem PySem.Spec PyProof.Rows L2
open Ev (D O Hh Fr R aL E Es Eo It T S Ss Fl Src bw bq TY BI ME)
variable{G:Tb}{n:Nat}{sc:Scope}{N:List Str}{df:Bool}{m:List Nat}{a b:E}{x:Expr}
def FD{P:aL}{fr:Fr}{h h':Hh}{d:D}(e:Ev.ev P (.fh a b) fr h=.ok d h'):Ev.ev P (.bin .add a b) fr h=.ok d h':=by
 simp only[Ev.ev]at e ⊢;obtain⟨x,h1,e1,e⟩:=Ev.ah e;obtain⟨y,h2,e2,e⟩:=Ev.ah e;rw[e1,Ev.ak,e2,Ev.ak];unfold Ev.E9 at e;split at e
 .exact e
 .cases e
def Ku(h:JE G n sc N df m (.bin .add a b) x):JE G n sc N df m (.fh a b) x:=λX g=>PE.of (h X g) λs H Q q=>by
 obtain⟨r,fr,h,d,h',sr,hr,e,q⟩:=q;exact⟨r,fr,h,d,h',sr,hr,FD e,q⟩
end Sm
namespace Sm
open PySem PySem.Spec PyProof.Rows L2 PySem.W
noncomputable def XI(h:Heap)(x C:Addr):Prop:=∃ox:Obj,h.get? x=some ox/\ox.cls=.ref C/\∃vs,ox.data=.fields vs
structure XC(K:PySem.W.Frag)(C:Addr):Prop where
 ob:∃nm q N bs bm hdct sn sub ab col dd k0 k1 k2 k3 k5 newId,K.lookup C=some (excClassObj nm q C N bs bm hdct sn sub ab col dd k0 k1 k2 k3 k5 newId)/\∀h:Heap,K.In h->OwnTailQ h [.type "ValueError",.type "Exception",.type "BaseException",.type "object"] bm
 ga:findIn K (.ref C) "__getattribute__" = some (some (.builtin "BaseException.__getattribute__"))
 gh:findIn K (.ref C) "__getattr__" = some none
 cl:findIn K (.ref C) "__class__" = some (some (.builtin "object.__class__"))
 so:subIn K (.ref C) (.type "object")=some true
 me:kitCls K (.ref C) (.ref C)=some true
section
variable{prog:Program}{w:World}{A:Around}{E:Value->Shared->Prop}{s:Shared}{K:PySem.W.Frag}{x C:Addr}
def o7{M:Model}{h:Heap}(i:XI h x C):Looks M h (typeOf (.ref x)) (.ref C):=λA Q E s k q=>by
 obtain⟨ox,h1,h2,_⟩:=i;exact wpAny_typeOf_ref (k _ _ h1) (by rw[h2];exact q)
def Oc {R:Result->Shared->Prop}{tp:Value}(cW:K.In s.heap) (i:XI s.heap x C) (so:subIn K (.ref C) (.type "object")=some true) (h:R (.ok (.ret (.ref C))) s) :
  codeAny (model prog w) A (.call (.builtin "getset_descriptor.__get__") ⟨[.builtin "object.__class__",.ref x,tp],[]⟩) R s:=by
 refine codeAny_call_builtin (by decide +kernel) KF.entry_gs (KF.slot_gs.check _ _ _ _ _ _ _ _ KF.type_class (KF.args_gs _ _ _) ?_);unfold Builtin.«getset_descriptor.__get__» Builtin.Getset_descriptor.descrGet;rw[dga_obj];show wpAny _ _ (do Builtin.Getset_descriptor.descrCheckInstance (.builtin "object.__class__") (.ref x);again _) _ _ _;refine eZ ?_;unfold Builtin.Getset_descriptor.descrCheckInstance;have e1:Builtin.Getset_descriptor.descrNameAndClass (.builtin "object.__class__")=pure (("__class__" : Str),Value.type "object"):=by kernel_rfl
 rw[e1];show wpAny _ _ (do let b <-isInstance (.ref x) (.type "object");_) _ _ _;refine eZ ?_;unfold isInstance;refine eZ (o7 i _ _ _ _ (λ_ _ e=>e) ?_);refine looks_subIn cW so _ _ _ _ (λ_ _ e=>e) ?_;refine uZ ?_;refine uZ ⟨by kernel_rfl,?_⟩;refine aby KF.entry_class ?_;show wpAny _ _ (do let t <-shownTypeOf (.ref x);ret t) _ _ _;refine eZ ?_;unfold shownTypeOf;refine eZ (o7 i _ _ _ _ (λ_ _ e=>e) ?_);refine uZ ?_;exact uZ h
def Kv {M:Model}{h:Heap}(cW:K.In h) (cl:findIn K (.ref C) "__class__" = some (some (.builtin "object.__class__"))):Looks M h (Builtin.ObjectAttr.find (.ref x) (.ref C) "__class__") (.bind (.builtin "getset_descriptor.__get__") (.builtin "object.__class__")):=λA Q E s k q=>by
 unfold Builtin.ObjectAttr.find;refine eZ (acn cW cl _ _ _ _ k ?_);refine eZ ?_;show wpAny _ _ (specialOf _ _) _ _ _;unfold specialOf;rw[KF.type_class];show wpAny _ _ (typeLookup (.type "getset_descriptor") _) _ _ _;refine acn cW (K:=K) (t:=.type "getset_descriptor") (r:=some (.builtin "getset_descriptor.__get__")) (by kernel_rfl) _ _ _ _ k ?_;refine eZ ?_;show wpAny _ _ (do let b <-Builtin.ObjectAttr.takesStores _;_) _ _ _;refine eZ ?_;unfold Builtin.ObjectAttr.takesStores;refine eZ ?_;unfold specialOf;rw[KF.type_class];show wpAny _ _ (typeLookup (.type "getset_descriptor") _) _ _ _;refine acn cW (K:=K) (t:=.type "getset_descriptor") (r:=some (.builtin "getset_descriptor.__set__")) (by kernel_rfl) _ _ _ _ k ?_;refine uZ ?_;refine uZ ?_;exact eZ (acf (uZ q))
def FE {Q:Option Value->Shared->Prop}(c:XC K C) (cW:K.In s.heap) (i:XI s.heap x C) (h:Q (some (.ref C)) { s with toks:=s.toks+1 }):wpAny (model prog w) A (getAttr? (.ref x) "__class__") Q E s:=by
 obtain⟨⟨nm,q,N,bs,bm,hdct,sn,sub,ab,col,dd,k0,k1,k2,k3,k5,newId,lk,ht⟩,ga,gh,cl,so,me⟩:=c;obtain⟨ox,i1,i2,_⟩:=id i;unfold getAttr?;refine eZ (wpAny_mkText ?_);unfold getAttrBy?;refine eZ (abt ?_);unfold getAttrBy;refine aaM (eZ (o7 i _ _ _ _ (λ_ _ e=>e) ?_));refine eZ (acn cW ga _ _ _ _ (λ_ _ e=>e) ?_);show wpAny _ _ (getAttrByItsOwn _ _ _ _ _ _) _ _ _;unfold getAttrByItsOwn;refine eZ (looks_hook cW (mc:=.ref C) (r:=none) gh _ _ _ _ (λ_ _ e=>e) ?_);refine eZ (abt (aaM ?_));show wpAny _ _ (boundAndCalled _ _ _) _ _ _;unfold boundAndCalled;rw[PySem.F.attrBase_ValueError.ga.bind];show wpAny _ _ (call (.builtin "BaseException.__getattribute__") [.ref x,.str "__class__" s.toks]) _ _ _;refine acg (codeAny_call_builtin (by decide +kernel) PySem.F.entry_bexc_ga (wpAny_check_ga_own PySem.F.attrBase_ValueError (cW _ _ lk) (ht _ cW) i1 i2 ?_));unfold Builtin.«object.__getattribute__»;have e1:slotArgs "__getattribute__" 1 ⟨[.ref x,.str "__class__" s.toks],[]⟩=pure (Value.ref x,[Value.str "__class__" s.toks]):=rfl;rw[e1];show wpAny _ _ (do let tp <-typeOf (.ref x);_) _ _ _;refine eZ (o7 i _ _ _ _ (λ_ _ e=>e) ?_);refine eZ (Kv cW cl _ _ _ _ (λ_ _ e=>e) ?_);show wpAny _ _ (do let r <-holding _ (call _ _);ret r) _ _ _;refine eZ (aaM (acg (Oc cW i so ?_)));refine uZ ?_;refine uZ ?_;exact uZ h
def Od(c:XC K C):KitX K (.ref x) (.ref C) (λh=>XI h x C):=by
 refine⟨λM h cW i=>o7 i,λM h cW _=>(kit_cls cW c.me).2.1,λh tp dd its n sl cW e=>?_,λ{prog w A E Q s} cW i hq=>FE c cW i hq⟩;by_cases z:C=tp
 .subst z;obtain⟨nm,q,N,bs,bm,hdct,sn,sub,ab,col,dd,k0,k1,k2,k3,k5,newId,lk,ht⟩:=c.ob;have:=cW _ _ lk;rw[e]at this;have z:=aab Obj.cls (PV this);injection z with z
  exact absurd z (by decide)
 .simpa using z
def Oe(c:XC K C){D:Value}{b:Bool}(cW:K.In s.heap)(i:XI s.heap x C)(e:kitOne K (.ref C) D=some b){Q:Value->Shared->Prop}(h:∀tk,Q (.bool b) { s with toks:=tk }) :
  wpAny (model prog w) A (call (.builtin "isinstance") [.ref x,D]) Q E s:=kia_one (Od c) cW i e (λz=>nomatch z) h
end
noncomputable def HN(l:List Env)(H':Hp)(h g B:Heap):Prop:=∀b o,g.get? b=some o->((H' b).isSome=true\/(h.get? b).isSome=true)->b∉frs l->B.get? b=some o
structure je(P:Program)(w:World)(l:List Env)(H:Hp)(s:Shared)(a C:Addr)(H':Hp)(s':Shared):Prop where
 os:s'.os=s.os
 bare:AllBare s'.gens
 un:Un (frs l) [] H H' s.heap s'.heap
 hok:ee P w H' s'.heap
 fl:∃B a0,Heap.FlyingW B l a (.ref C) a0 s'.heap/\HN l H' s.heap s'.heap B
noncomputable def uT(P:Program)(w:World):lS:=λouter H s E e s'=>∃a C H',e=.ref a/\je P w outer H s a C H' s'/\E (.ref C) none H'
def Dc{P:Program}{w:World}{H:Hp}{h:Heap}{a:Addr}{o:HO}(x:cR P w H h a o):∃ob,h.get? a=some ob:=by
 cases o with
 |lst xs=>obtain⟨_,_,_,_,e⟩:=x;exact⟨_,e⟩
 |tup xs=>obtain⟨_,_,_,ob,e,_⟩:=x;exact⟨_,e⟩
 |dK kvs=>obtain⟨_,_,_,_,o,_,_,e,_⟩:=x;exact⟨_,e⟩
 |dT kvs=>obtain⟨_,_,_,_,o,_,_,e,_⟩:=x;exact⟨_,e⟩
 |set S n=>obtain⟨o,_,_,_,e,_⟩:=x;exact⟨_,e⟩
 |ins C dx fs=>obtain⟨_,_,_,e,_⟩:=x;exact⟨_,e⟩
 |own y=>obtain⟨_,e⟩:=x;exact⟨_,e⟩
 |xd fs=>obtain⟨_,⟨_,_,_,e,_⟩,_⟩:=x;exact⟨_,e⟩
 |iU lo hi=>obtain⟨_,_,_,e⟩:=x;exact⟨_,e⟩
 |bY ob u=>obtain⟨e,_⟩:=x;exact⟨_,e⟩
 |um ps=>exact⟨_,(show h.get? a=some _ from x)⟩
 |met f y=>exact⟨_,(show h.get? a=some _ from x)⟩
 |ext φ=>obtain⟨_,e,_⟩:=x;exact e
def qp{P:Program}{w:World}{l:List Env}{H H':Hp}{h g g2 B:Heap}(u:Un (frs l) [] H H' h g)(hok:ee P w H' g)(ny:HN l H' h g B)(st:Heap.StaysIn B g2)(up:∀b∈frs l,∀o,g.get? b=some o->∃sl,g2.get? b=some { o with slots:=sl })(hb:∀b∈frs l,H' b=none) :
  Un (frs l) [] H H' h g2/\ee P w H' g2/\HN l H' h g2 B:=by
 have same:∀b o,g.get? b=some o->((H' b).isSome=true\/(h.get? b).isSome=true)->b∉frs l->g2.get? b=some o:=λb o e z n=>st b o (ny b o e z n);refine⟨⟨λb o e n hf hx=>same b o (u.keep b o e n hf hx) (.inr (by rw[e];rfl)) hf,λb o e n hf hx=>?_,u.free,λb o e hx=>?_,u.tups,u.kh,u.lB⟩,λa o e=>?_,λb o e z n=>?_⟩
 .obtain⟨sl,e1⟩:=u.slot b o e n hf hx;obtain⟨sl2,e2⟩:=up b hf _ e1;exact⟨sl2,e2⟩
 .obtain⟨o',e1⟩:=u.there b o e hx;by_cases hf:b∈frs l
  .obtain⟨sl,e2⟩:=up b hf _ e1;exact⟨_,e2⟩
  .exact⟨o',same b o' e1 (.inr (by rw[e];rfl)) hf⟩
 .refine(hok a o e).stay (λb v z q=>?_) (λ_ q=>q) λ_ _ q=>q;have tr:(H' b).isSome=true:=by
   rcases z with z|z
   .rw[z,e];rfl
   .rw[z];rfl
  exact same b v q (.inl tr) λhf=>by rw[hb b hf]at tr;cases tr
 .have ex:∃o',g.get? b=some o':=by
   rcases z with z|z
   .obtain⟨x,e1⟩:=Option.isSome_iff_exists.mp z;exact Dc (hok b x e1)
   .obtain⟨x,e1⟩:=Option.isSome_iff_exists.mp z;exact u.there b x e1 (by simp)
  obtain⟨o',e1⟩:=ex;have e2:=same b o' e1 z n;rw[e]at e2;cases e2;exact ny b o e1 z n
section
variable{X:Cx}{pins:List (Addr×Obj)}{σ:L2.St}{H H':Hp}{s s':Shared}{a C:Addr}
def qq(I:Inv X pins σ H s)(u:Un (frs X.stack) [] H H' s.heap s'.heap):∀b∈frs X.stack,H' b=none:=λb hb=>by
 obtain⟨_,o,ho,_⟩:=I.stack.mem hb;exact u.free b o ho (I.sL b hb) (by simp)
def uU(hx:X.ex=[])(hs:X.stack=X.env :: X.outer)(I:Inv X pins σ H s){g2:Heap}{B:Heap}{a0:Value}(os:s'.os=s.os)(bare:AllBare s'.gens)(u:Un (frs X.stack) [] H H' s.heap s'.heap)(hok:ee X.prog X.w H' s'.heap)(ny:HN X.stack H' s.heap s'.heap B)
  (ff:∀b∈frs X.stack,∃o,s'.heap.get? b=some o/\∀vs,o.data≠.fields vs) (fl:Heap.FlyingW B X.outer a (.ref C) a0 g2) (up:Heap.UpToSlots s'.heap g2):je X.prog X.w X.outer X.H₀ X.s₀ a C H' { s' with heap:=g2 }:=by
 obtain⟨u2,tH,wI⟩:=qp u hok ny fl.1 (λb hb o e=>by
  obtain⟨o',e1,e2⟩:=ff b hb;rw[e]at e1;cases e1;exact up b o e e2) (qq I u)
 have I2:Inv X pins σ H' { s' with heap:=g2 }:=I.vd (s':={ s' with heap:=g2 }) (ch:=[]) os u2 tH bare (λb z=>absurd z (by simp));refine⟨os.trans I.os,bare,by have:=I2.base;rw[hx]at this;exact this,tH,B,a0,fl,λb o e z n=>?_⟩;have hne:b≠X.env.locals:=λy=>by
  rcases z with z|z
  .rw[y,I2.free]at z;cases z
  .obtain⟨x,e1⟩:=Option.isSome_iff_exists.mp z;rw[y]at e1;exact absurd (V3 e1) (Nat.not_lt.mpr I.ok.above)
 refine wI b o e (z.imp id λz=>?_) λhb=>?_
 .obtain⟨x,e1⟩:=Option.isSome_iff_exists.mp z;obtain⟨x',e2⟩:=I.base.there b x e1 (by rw[hx];simp);rw[e2];rfl
 .rcases List.mem_cons.mp (I.qO b hb)with y|y
  .exact hne y
  .exact n y
theorem rm:∀{l:List Env}{h base B:Heap},Heap.FunFrames h base l->(∀b∈frs l,B.get? b=none)->Heap.FunFrames h B l
 |[],_,_,_,_,_=>trivial
 |env :: r,h,base,B,hl,n=>by
  obtain⟨hk,⟨L,o,hf,hn,ho,hd⟩,hr⟩:=hl;exact⟨hk,⟨L,o,hf,n L (by unfold frs;rw[aaH,hf];exact aaD),ho,hd⟩,rm hr λb hb=>n b (by unfold frs;rw[aaH,hf];exact aam _ hb)⟩
def FF{Q:Unit->Shared->Prop}{E:Value->Shared->Prop}(hx:X.ex=[])(hs:X.stack=X.env :: X.outer)(hf:X.env.frame=some X.env.locals)(I:Inv X pins σ H s)(f:je X.prog X.w X.stack H s a C H' s')(q:∀s'',je X.prog X.w X.outer X.H₀ X.s₀ a C H' s''->Q () s'') :
  wpAny (model X.prog X.w) X.A (leaving X.env (.ref a)) Q E s':=by
 obtain⟨os,bare,un,hok,B,a0,fl,ny⟩:=f;have ff:∀b∈frs X.stack,∃o,s'.heap.get? b=some o/\∀vs,o.data≠.fields vs:=λb hb=>(fl.2.2.1.mem hb).2;rw[hs]at fl;exact wpAny_leaves_onW (by rw[I.ok.frames,hs]) hf fl λh' wJ up=>q _ (uU hx hs I os bare un hok ny ff wJ up)
def Bd{Q:Unit->Shared->Prop}{E:Value->Shared->Prop}{h1:Heap}{args:List Value}(hx:X.ex=[])(hs:X.stack=X.env :: X.outer)(hf:X.env.frame=some X.env.locals)(I:Inv X pins σ H s)(m:Heap.MadeExcOf s.heap h1 a (.ref C) args)(q:∀s'',je X.prog X.w X.outer X.H₀ X.s₀ a C H s''->Q () s'') :
  wpAny (model X.prog X.w) X.A (leaving X.env (.ref a)) Q E { s with heap:=h1 }:=by
 have cut:∀b∈frs X.stack,(hideAll s.heap (frs X.stack)).get? b=none:=λb hb=>hideAll_none _ hb;have Of:=rm (B:=hideAll s.heap (frs X.stack)) I.stack cut;have ff:∀b∈frs X.stack,∃o,s.heap.get? b=some o/\∀vs,o.data≠.fields vs:=λb hb=>(Of.mem hb).2;refine wpAny_leaves_madeW (base:=hideAll s.heap (frs X.stack)) (h:=s.heap) (by rw[I.ok.frames,hs]) hf (λb o e=>of_hideAll _ e) (by rw[hs]at Of ⊢;exact Of) m λh' t wJ _ _ up=>q _ ?_;have:=uU (s':=s) hx hs I (g2:=h') rfl I.bare Un.refl I.hok (B:=hideAll s.heap (frs X.stack)) (λb o e _ n=>hideAll_get _ e n) ff wJ λb o e hd=>up b o (m.keeps b o e) hd;exact this
def je.inv(f:je X.prog X.w X.stack H s a C H' s')(I:Inv X pins σ H s):Inv X pins σ H' s':=I.vd (ch:=[]) f.os f.un f.hok f.bare (λb z=>absurd z (by simp))
def je.xi{P:Program}{w:World}{l:List Env}(f:je P w l H s a C H' s'):XI s'.heap a C:=by
 obtain⟨B,a0,fl,_⟩:=f.fl;obtain⟨oe,vs,T,oT,ts,h1,h2,h3,_⟩:=fl.2.2.2;exact⟨oe,h1,h2.1,vs,h3⟩
def je.new{P:Program}{w:World}{l:List Env}(f:je P w l H s a C H' s'):a∉frs l/\H' a=none:=by
 obtain⟨oe,h1,h2,vs,h3⟩:=f.xi;obtain⟨B,a0,fl,ny⟩:=f.fl;have n1:a∉frs l:=λhb=>by
  obtain⟨_,o,e1,e2⟩:=fl.2.2.1.mem hb;rw[h1]at e1;cases e1;exact e2 vs h3
 refine⟨n1,?_⟩;cases z:H' a with
 |none=>rfl
 |some x=>
  have:=ny a oe h1 (.inl (by rw[z];rfl)) n1;rw[fl.2.1]at this;cases this
def je.on{A:Around}{M:Model}{P:Program}{w:World}{l:List Env}{Q:Unit->Shared->Prop}{E:Value->Shared->Prop}(f:je P w l H s a C H' s')(hb:∀b∈frs l,H' b=none)(q:∀s'',je P w l H s a C H' s''->Q () s''):wpAny M A (setFlight (.ref a) none) Q E s':=by
 obtain⟨os,bare,un,hok,B,a0,fl,ny⟩:=f;refine lands_againW fl λh2 De up=>q _ ?_;obtain⟨u2,tH,wI⟩:=qp un hok ny De.1 (λb hb o e=>by
  obtain⟨_,o',e1,e2⟩:=fl.2.2.1.mem hb;rw[e]at e1;cases e1;exact up b o e e2) hb
 exact⟨os,bare,u2,tH,B,a0,De,wI⟩
def Be(I:Inv X pins σ H s)(f:je X.prog X.w X.stack H s a C H' s')(hs:X.stack=X.env :: X.outer)(hf:X.env.frame=some X.env.locals){Q:Unit->Shared->Prop}{E:Value->Shared->Prop}
  (q:∀s'',je X.prog X.w X.stack H s a C H' s''->Q () s''):wpAny (model X.prog X.w) X.A (noteFrame (.ref a) X.env) (λ_ s₂=>wpAny (model X.prog X.w) X.A (setFlight (.ref a) none) Q E s₂) E s':=by
 obtain⟨os,bare,un,hok,B,a0,fl,ny⟩:=f;have ff:∀b∈frs X.stack,∃o,s'.heap.get? b=some o/\∀vs,o.data≠.fields vs:=λb hb=>(fl.2.2.1.mem hb).2;have fr:=qq I un;rw[hs]at fl;refine wpAny_looks_onW (by rw[I.ok.frames,hs]) hf fl λh1 hl1 up1=>wpAny_landsW hl1 λh2 De XA=>q _ ?_;obtain⟨u2,tH,wI⟩:=qp un hok ny De.1 (λb hb o e=>by
  obtain⟨o',e1,e2⟩:=ff b hb;rw[e]at e1;cases e1;obtain⟨sl,e3⟩:=up1 b o e e2;obtain⟨sl2,e4⟩:=XA b _ e3 e2;exact⟨sl2,e4⟩) fr
 exact⟨os,bare,u2,tH,B,a0,by rw[hs];exact De,wI⟩
end
section
variable{X:Cx}
def Og{e:Expr}{t t':TE}(h:PE X e t)(w:∀s H Q,t' s H Q->t s H Q):PE X e t':=λpins s σ H Q I q=>h pins s σ H Q I (w _ _ _ q)
def Kw{a:Addr}{oe:Obj}{C:Addr}{D:V}{Du:Value}{b:Bool}{ed:Expr}{xe:Str}{p p1 pos:Pos}(hp:(a,oe)∈X.pn)(ho:oe.cls=.ref C)(hd:∃vs,oe.data=.fields vs)(c:XC X.K C)(hD:PE X ed (tC D))(rD:∀u,RelV D u->u=Du)(k:kitOne X.K (.ref C) Du=some b)
  (hN:X.N[0]?=some xe) (hv:uo X.env.scope xe) (hg:Gl X "isinstance") (hm:X.mg "isinstance" = none) (hst:∀env:Env,starEach [.Name xe p1,ed] env=(false,eval (.Name xe p1) env) :: starEach [ed] env) (Oh:∀env:Env,starEach [ed] env=(false,eval ed env) :: starEach [] env)
  (XD:(xe==("__debug__" : Str))=false) (XE:(xe==("__classdict__" : Str))=false) :
  PE X (.Call (.Name "isinstance" p) [.Name xe p1,ed] [] pos) (λσ H Q=>σ[0]?=some (some (.ref a))/\Q (.bl b) H):=by
 have hc:fy X (.builtin "isinstance") (λxs H Q=>xs=[.ref a,D]/\Q (.bl b) H):=by
  intro pins s σ H xs us Q I rv q;obtain⟨rfl,q⟩:=q;cases rv with
  |cons r1 rv=>
   cases rv with
   |cons r2 rv=>
    cases rv;cases r1;obtain rfl:=rD _ r2;obtain⟨h1,_⟩:=I.pin (a,oe) (List.mem_append.mpr (.inl hp));exact Oe c I.jE ⟨oe,h1,ho,hd⟩ k λtk=>⟨.bl b,H,I.tok _,rfl,q⟩
 refine Og (vM hc hg hm (by decide +kernel) (dQ (qP hN hv XD XE) (dQ hD g7 (Oh _)) (hst _)) (by decide) (by decide) (hst _) (by rw[Oh];rfl)) λs H Q q=>?_;exact⟨_,q.1,rfl,q.2⟩
theorem tK:∀{bs:List Bool}{its:List Value},Vals (bs.map V.bl) its->its=bs.map Value.bool
 |[],_,h=>by cases h;rfl
 |b :: bs,_,h=>by
  cases h with
  |cons r h=>cases r;rw[tK h];rfl
noncomputable def HQ:Value->Bool
 |.bool b=>b
 |_=>false
def wK(bs:List Bool):∀y∈(bs.map Value.bool).toArray,MeetsSeq.EqGives y (.bool true) (HQ y):=λy hy=>by
 rw[List.mem_toArray,List.mem_map]at hy;obtain⟨b,_,rfl⟩:=hy;intro prog w A E s Q q;refine SeqAt.EqAt.bool_bool b true prog w E Q ?_;cases b<;>exact q
section
variable{o:Expr}{to:TE}{j:Nat}{ap pos p1:Pos}
def Ky (ho:PE X o to) (hbase:attributeBase o "count" X.env (eval o X.env)=eval o X.env:=by rfl) (hline:(ap.endLine==pos.line)=true:=by rfl):PE X (.Call (.Attribute o "count" ap) [.Constant (.bool true) j p1] [] pos) (λσ H Q=>to σ H λx H1=>∃(l:Addr) (bs:List Bool),x=.ref l/\H1 l=some (.lst (bs.map V.bl))/\Q (.int (bs.countP id)) H1):=by
 intro pins s σ H Q I h;refine abN hbase rfl hline rfl (bC (ho pins s σ H _ I h) λv s1 ⟨x,H1,I1,r1,l,bs,ex,hl,q⟩=>?_);subst ex;cases r1;obtain⟨z,its,n,r,hn,e⟩:=I1.mQ hl;obtain rfl:=tK r;refine⟨"list","list.count",aaZ,PySem.F.slot_list_count,PySem.F.type_list_count,⟨_,e,rfl⟩,λa ha=>by cases ha;exact⟨_,e,rfl⟩,?_⟩;show wpAny _ _ (callWith pos (.builtin "list.count") [.ref l] [(false,eval (.Constant (.bool true) j p1) X.env)] []) _ _ _;refine PySem.P.count_list (Constant_bool ⟨_,n,HQ,e,wK bs,?_⟩);refine⟨.int (bs.countP id),H1,I1.tok _,⟨s1.toks,?_⟩,q⟩;have:List.countP HQ (bs.map Value.bool)=bs.countP id:=by rw[List.countP_map];rfl
 rw[List.toList_toArray,this]
def Kz (ho:PE X o to) (hbase:attributeBase o "index" X.env (eval o X.env)=eval o X.env:=by rfl) (hline:(ap.endLine==pos.line)=true:=by rfl):PE X (.Call (.Attribute o "index" ap) [.Constant (.bool true) j p1] [] pos) (λσ H Q=>to σ H λx H1=>∃(l:Addr) (bs:List Bool) (k:Nat),x=.ref l/\H1 l=some (.lst (bs.map V.bl))/\(bs[k]?=some true/\(∀m,m<k->bs[m]?=some false)/\k<1000)/\Q (.int k) H1):=by
 intro pins s σ H Q I h;refine abN hbase rfl hline rfl (bC (ho pins s σ H _ I h) λv s1 ⟨x,H1,I1,r1,l,bs,k,ex,hl,⟨hk1,hk2,YU⟩,q⟩=>?_);subst ex;cases r1;obtain⟨z,its,n,r,hn,e⟩:=I1.mQ hl;obtain rfl:=tK r;refine⟨"list","list.index",aaZ,PySem.F.slot_list_index,PySem.F.type_list_index,⟨_,e,rfl⟩,λa ha=>by cases ha;exact⟨_,e,rfl⟩,?_⟩;show wpAny _ _ (callWith pos (.builtin "list.index") [.ref l] [(false,eval (.Constant (.bool true) j p1) X.env)] []) _ _ _;have hlt:=(List.getElem?_eq_some_iff.mp hk1).1;refine PySem.P.index_list (Constant_bool ⟨_,n,HQ,k,by simpa using hlt,e,wK bs,by omega,?_,λm hm h2=>?_,?_⟩)
 .simp only[acJ,List.getElem_map];show bs[k]=true;exact(List.getElem?_eq_some_iff.mp hk1).2
 .simp only[acJ,List.getElem_map];show bs[m]'(by simpa using hm)=false;exact(List.getElem?_eq_some_iff.mp (hk2 m h2)).2
 .exact⟨.int k,H1,I1.tok _,⟨_,rfl⟩,q⟩
end
structure HS(K:PySem.W.Frag)(C:Addr)(c:Nat)(D0 D1 D2 D3:Addr):Prop where
 xc:XC K C
 k0:kitOne K (.ref C) (.ref D0)=some (decide (c=0))
 k1:kitOne K (.ref C) (.ref D1)=some (decide (c=1))
 k2:kitOne K (.ref C) (.ref D2)=some (decide (c=2))
 k3:kitOne K (.ref C) (.ref D3)=some (decide (c=3))
 kv:kitOne K (.ref C) (.type "ValueError")=some true
 lt:c<4
structure XF(X:Cx)(n0 n1 n2 n3:Str)(D0 D1 D2 D3:Addr):Prop where
 g0:Gl X n0
 g1:Gl X n1
 g2:Gl X n2
 g3:Gl X n3
 gi:Gl X "isinstance"
 gv:Gl X "ValueError"
 m0:X.mg n0=some (.ref D0)
 m1:X.mg n1=some (.ref D1)
 m2:X.mg n2=some (.ref D2)
 m3:X.mg n3=some (.ref D3)
 mi:X.mg "isinstance" = none
 mv:X.mg "ValueError" = none
def KA{st:List Stmt}{t t':TS}(h:fD X st t)(w:∀D σ H,t' D σ H->t D σ H):fD X st t':=λpins s σ H D I q=>h pins s σ H D I (w _ _ _ q)
set_option maxHeartbeats 1000000 in
def FG{a:Addr}{oe:Obj}{C D0 D1 D2 D3:Addr}{c:Nat}{tb:List Stmt}{p0 p1 p2 p3 p4 p5 p6 p7 p8 p9 HU HV HW HY HZ Ia Ib Ic Ie Ig Ih Df XG XH Uu Uv XJ XM XN XO XQ XS XT XU XW XX XY Uw Ux XZ X4 X5 X6 X7:Pos}
  (hp:(a,oe)∈X.pn) (ho:oe.cls=.ref C) (hd:∃vs,oe.data=.fields vs) (k:HS X.K C c D0 D1 D2 D3) (g:XF X "NoFit" "Clash" "NoPlace" "NoNumber" D0 D1 D2 D3)
  (hN:X.N=(["_law_e","_law_flags"]:List Str)) (h0:X.env.scope.names.lookup ("_law_e" : Str)=some .local) (h1:X.env.scope.names.lookup ("_law_flags" : Str)=some .local)
  (hl1:(Uu.endLine==Uv.line)=true) (hl2:(Uw.endLine==Ux.line)=true) :
  fD X [.Assign [.Name "_law_flags" p0] (.List [.Call (.Name "isinstance" p1) [.Name "_law_e" p2,.Name "NoFit" p3] [] p4,.Call (.Name "isinstance" p5) [.Name "_law_e" p6,.Name "Clash" p7] [] p8,.Call (.Name "isinstance" p9) [.Name "_law_e" HU,.Name "NoPlace" HV] [] HW] HY) HZ,
   .Assign [.Name "_law_flags" Ia] (.BinOp (.Name "_law_flags" Ib) .Add (.List [.Call (.Name "isinstance" Ic) [.Name "_law_e" Ie,.Name "NoNumber" Ig] [] Ih] Df) XG) XH,
   .If (.BoolOp .Or [.Compare (.Call (.Attribute (.Name "_law_flags" XJ) "count" Uu) [.Constant (.bool true) 0 XM] [] Uv) [.NotEq] [.Constant (.int 1) 0 XN] XO,.UnaryOp .Not (.Call (.Name "isinstance" XQ) [.Name "_law_e" XS,.Name "ValueError" XT] [] XU) XW] XX) tb [] XY,
   .Return (some (.Tuple [.Constant (.str "refused") 0 XZ,.Call (.Attribute (.Name "_law_flags" X4) "index" Uw) [.Constant (.bool true) 0 X5] [] Ux] 0 X6)) X7] (λD σ H=>σ=[some (.ref a),none]/\∀p H',(∀b o,H b=some o->H' b=some o)->H' p=some (.tup [.str "refused",.int c])->D.rt (.ref p) H'):=by
 have v0:uo X.env.scope ("_law_e" : Str):=.inl h0;have v1:uo X.env.scope ("_law_flags" : Str):=.inl h1;have n0:X.N[0]?=some ("_law_e" : Str):=by rw[hN];rfl
 have n1:X.N[1]?=some ("_law_flags" : Str):=by rw[hN];rfl
 have nd:X.N.Nodup:=by rw[hN];decide
 have Dg:∀{ed:Expr} {D:V} {Du:Value} {b:Bool} {q0 q1 q2:Pos},PE X ed (tC D)->(∀u,RelV D u->u=Du)->kitOne X.K (.ref C) Du=some b->(∀env:Env,starEach [.Name "_law_e" q1,ed] env=(false,eval (.Name "_law_e" q1) env) :: starEach [ed] env)->(∀env:Env,starEach [ed] env=(false,eval ed env) :: starEach [] env)->
   PE X (.Call (.Name "isinstance" q0) [.Name "_law_e" q1,ed] [] q2) (λσ H Q=>σ[0]?=some (some (.ref a))/\Q (.bl b) H):=λh1 h2 h3 h4 h5=>Kw hp ho hd k.xc h1 h2 h3 n0 v0 g.gi g.mi h4 h5 (by decide) (by decide)
 have i0:=λ{q0 q1 q2 q3:Pos}=>Dg (q0:=q0) (q1:=q1) (q2:=q2) (lQ (pos:=q3) g.g0 g.m0 (v:=.ref D0) rfl) (λu r=>r) k.k0 (λ_=>rfl) (λ_=>rfl);have i1:=λ{q0 q1 q2 q3:Pos}=>Dg (q0:=q0) (q1:=q1) (q2:=q2) (lQ (pos:=q3) g.g1 g.m1 (v:=.ref D1) rfl) (λu r=>r) k.k1 (λ_=>rfl) (λ_=>rfl);have i2:=λ{q0 q1 q2 q3:Pos}=>Dg (q0:=q0) (q1:=q1) (q2:=q2) (lQ (pos:=q3) g.g2 g.m2 (v:=.ref D2) rfl) (λu r=>r) k.k2 (λ_=>rfl) (λ_=>rfl);have i3:=λ{q0 q1 q2 q3:Pos}=>Dg (q0:=q0) (q1:=q1) (q2:=q2) (lQ (pos:=q3) g.g3 g.m3 (v:=.ref D3) rfl) (λu r=>r) k.k3 (λ_=>rfl) (λ_=>rfl);have iv:=λ{q0 q1 q2 q3:Pos}=>Dg (q0:=q0) (q1:=q1) (q2:=q2) (Jo (pos:=q3) g.gv g.mv (by decide +kernel) (v:=.ty "ValueError") rfl) (λu r=>r) k.kv (λ_=>rfl) (λ_=>rfl);have Oi:=λ{q:Pos}=>qP (X:=X) (pos:=q) n1 v1;refine KA (jr (qR (i:=1) (pos':=p0) nd n1 (.inl h1) (vK (dQ i0 (dQ i1 (dQ i2 g7)))) rfl (.inr h1)) (jr (qR (i:=1) nd n1 (.inl h1) (Hi Cs Oi (vK (dQ i3 g7))) rfl (.inr h1))
  (jr (Av (PW.pt (G8 (yT Rf (Ky Oi rfl hl1) B9 (jF _)) (Ca (Cb (Ma iv))))) Cd yP) (yQ (vI (Cm (dQ qQ (dQ (Kz Oi rfl hl2) g7)))))))) λD σ H q=>?_
 obtain⟨rfl,q⟩:=q;refine⟨rfl,rfl,rfl,by show 3<=sizeLine;decide,λl hl=>?_⟩;refine⟨_,rfl,rfl,by show 1<=sizeLine;decide,λl2 hl2=>?_⟩;have ne:l2≠l:=λz=>by rw[z,cz]at hl2;cases hl2
 refine⟨l,l2,_,_,rfl,rfl,by rw[bf ne.symm];exact cz,cz,by show 4<=sizeLine;decide,λp hp=>?_⟩;have lt:=k.lt;have keep:∀{H1:Hp} {q:Addr} {x:HO},(∀b o,H b=some o->H1 b=some o)->H1 q=none->∀b o,H b=some o->upd H1 q x b=some o:=λk1 k2 b o e=>by rw[bf (bG (k1 b o e) k2)];exact k1 b o e
 have k3:=keep (x:=.lst ([V.bl (decide (c=0)),.bl (decide (c=1)),.bl (decide (c=2))]++[.bl (decide (c=3))])) (keep (x:=.lst [.bl (decide (c=3))]) (keep (x:=.lst [V.bl (decide (c=0)),.bl (decide (c=1)),.bl (decide (c=2))]) (λ_ _ e=>e) hl) hl2) hp;have fin:∀{H3:Hp},(∀b o,H b=some o->H3 b=some o)->∀t,H3 t=none->D.rt (.ref t) (upd H3 t (.tup [.str "refused",.int c])):=λk1 t ht=>q t _ (keep k1 ht) cz;have c4:c=0\/c=1\/c=2\/c=3:=by omega
 have hc:[decide (c=0),decide (c=1),decide (c=2),decide (c=3)].countP id=1:=by rcases c4 with rfl|rfl|rfl|rfl<;>decide
 have hi:[decide (c=0),decide (c=1),decide (c=2),decide (c=3)][c]?=some true/\(∀m,m<c->[decide (c=0),decide (c=1),decide (c=2),decide (c=3)][m]?=some false)/\c<1000:=by rcases c4 with rfl|rfl|rfl|rfl<;>decide
 refine⟨_,rfl,p,[decide (c=0),decide (c=1),decide (c=2),decide (c=3)],rfl,cz,?_⟩;rw[hc];refine⟨rfl,_,rfl,?_⟩;dsimp only;rw[Yv (by decide)];refine⟨rfl,_,rfl,?_⟩;dsimp only;rw[Yv (by decide)];refine⟨_,rfl,p,[decide (c=0),decide (c=1),decide (c=2),decide (c=3)],c,rfl,cz,hi,?_⟩;exact⟨by show 2<=sizeLine;decide,fin k3⟩
end
section
variable{P:Program}{w:World}{K:PySem.W.Frag}{mg:Str->Option Value}{base:Heap}
noncomputable def Ii(P:Program)(w:World)(K:PySem.W.Frag)(mg:Str->Option Value)(base:Heap)(N:List Str)(qual:Str)(scope:Scope)(f:Addr)(cd:Value)(A:Around)(outer:List Env)(s:Shared)(H:Hp)(a:Addr)(oe:Obj):Cx:=
 { jJ jR P w K mg base N qual scope f cd A outer s H E0 with calm:=false,pn:=[(a,oe)],xe:=λ_ _=>False }
def FH{x qual:Str}{st:Stmt}{f:Addr}{fd:FuncData}{N ps:List Str}{A:Around}{outer:List Env}{s:Shared}{H:Hp}{args:Args}{us:List Value}{vs:List V}{Q:VK}{a:Addr}{oe:Obj}(F:nL K x qual st f fd)(S:bH N ps (aB st))(dp:A.depth<recursionLimit)
  (e0:sM P w K mg base A outer s H) (hb:BindsTo s fd args (ps.zip us)) (r:Vals vs us) (hl:vs.length=ps.length) (p1:s.heap.get? a=some oe) (p2:H a=none) (p3:a∉frs outer) (p4:∀v,oe.data≠.cell v)
  (hbody:∀(cdv:Value) (X:Cx),X=Ii P w K mg base N qual (aB st) f cdv A outer s H a oe->∃t,fD X (cG st) t/\t { nx:=λ_ H'=>Q .aU H',rt:=Q } (start N vs) H) :
  codeAny (model P w) A (.call (.ref f) args) (CR jR outer P w H s Q E0) s:=by
 obtain⟨oc,od,kV,doc,pm,an,cdv,ct,osl,rfl,lk,hcd⟩:=F.ex;have KX:K.In s.heap:=e0.mod.cW.keeps λb o e=>(e0.bs b o e).1;have lim:s.heap.NoLimit:=e0.mod.nolimit.keeps λb o e=>(e0.bs b o e).1;have hkind:∀y∈ps.zip us,(aB st).names.lookup y.1=some .local\/((aB st).names.lookup y.1=some .cell/\((cellsFrom (s.heap.objs.size+1) (aB st).names []).lookup y.1).isSome=true):=λ⟨n,v⟩ hy=>by
  rcases S.par n (ab0 hy).1 with q|q
  .exact .inl q
  .exact .inr ⟨q,abO _ _ _ (.inl q)⟩
 refine codeAny_call_function dp (KX _ _ lk) rfl S.co S.gen rfl (acS KX hcd) (hb _ _ _ _ ?_);refine acd S.kind hkind λenv he s1 y=>?_;subst he;refine⟨lim.keeps y.toInCall.keep,codeAny_func ?_⟩;obtain⟨t,ht,hq⟩:=hbody cdv _ rfl;have I0:Inv (jJ jR P w K mg base N qual (aB st) f cdv { A with handled:=none } outer s H E0) [] (start N vs) H s1:=uz S rfl ⟨e0.frames,e0.mod,e0.bs,e0.nC,e0.iz,e0.pR,e0.hok,e0.bare⟩ hl r y;have ok:=I0.ok;have I:Inv (Ii P w K mg base N qual (aB st) f cdv A outer s H a oe) [] (start N vs) H s1:=
  ⟨⟨ok.mod,ok.kind,ok.glob,ok.blt,ok.above,ok.inj,ok.has,ok.vG,(λh=>nomatch h),Around.frames_deeper e0.frames,ok.stk,ok.B6,ok.bs,ok.nC,ok.qd,ok.qe,ok.iz,ok.pR⟩,I0.os,I0.bare,I0.base,I0.loc,I0.cell,I0.free,I0.ir,
   λp hp=>by
    obtain rfl:p=(a,oe):=by simpa[Ii]using hp
    exact⟨y.toInCall.keep _ _ p1,p2,λz=>by
     have:=V3 p1;rw[show a=s.heap.objs.size from z]at this;exact absurd this (aaK _),p3,p4⟩,I0.hok,I0.len⟩
 refine aas (ht [] s1 (start N vs) H _ I hq) (λfl s' hs=>?_) λe s' hs=>hs.elim;have fin:∀{σ':L2.St} {H':Hp} {v:V} {u:Value},Inv (Ii P w K mg base N qual (aB st) f cdv A outer s H a oe) [] σ' H' s'->RelV v u->Q v H'->CE outer P w H s Q u s':=
  λ{σ' H' v u} J rv q=>⟨v,H',J.os,J.bare,J.base,J.hok,rv,q⟩
 cases fl with
 |ret u=>
  obtain⟨v,σ',H',J,rv,q⟩:=hs;exact fin J rv q
 |next=>
  obtain⟨σ',H',J,q⟩:=hs;exact fin (v:=V.aU) (u:=Value.none) J rfl q
 |brk=>
  obtain⟨_,_,_,q⟩:=hs;exact False.elim q
 |cont=>
  obtain⟨_,_,_,q⟩:=hs;exact False.elim q
end
section
variable{X:Cx}{pins:List (Addr×Obj)}{σ:L2.St}{H H':Hp}{s s':Shared}{a C:Addr}
def Dh{M:Model}{A:Around}{E:Value->Shared->Prop}{i:Nat}{x:Str}{v:V}{Q:Unit->Shared->Prop}(I:Inv X pins σ H s)(hN:X.N.Nodup)(hi:X.N[i]?=some x)(hk:X.env.scope.names.lookup x=some .local)(hv:σ[i]?=some (some v))
  (h:∀s',Inv X pins (σ.set i none) H s'->Q () s'):wpAny M A (unbindName X.env x) Q E s:=by
 obtain⟨m,hn,hl⟩:=id I.loc;have hcls:(X.env.scope.kind==.class || (X.env.scope.kind==.module&&X.env.locals != X.env.globals))=false:=by rw[I.ok.kind];rfl
 have nD:=I.nD;obtain⟨u,r,q⟩:=hl i x v hi hv (.inl hk);have hm:m x=some u:=by
  rcases q with ⟨_,e⟩|⟨k,_⟩
  .exact e
  .rcases k with k|k
   .rw[show X.env.kindOf x=X.env.scope.names.lookup x from rfl,hk]at k;cases k
   .rw[show X.env.kindOf x=X.env.scope.names.lookup x from rfl,hk]at k;cases k
 refine wpAny_unbindName_local hk hn hm hcls λh' u' hn' hs=>?_;obtain⟨oL,_,_,T5,_⟩:=id hn;have tracked:ee X.prog X.w H h':=λb ob e=>by
  refine(I.hok b ob e).stay (λc w' hc q=>(hs.2 c ?_).trans q) (λ_ q=>q) λ_ _ q=>q;rintro rfl;rcases hc with rfl|hc
  .rw[I.free]at e;cases e
  .rw[I.free]at hc;cases hc
 refine h _ ⟨I.ok,I.os,I.bare,⟨λb o e n hb hx=>?_,λb o e n hb hx=>?_,I.base.free,λb o e hx=>?_,I.base.tups,I.base.kh,I.base.lB⟩,⟨_,hn',λj y v' e1 e2 e3=>?_⟩,λy c e=>?_,I.free,I.ir,λp hp=>?_,tracked,by simpa using I.len⟩
 .exact(hs.2 b (aah (xT (V3 e) I.ok.above))).trans (I.base.keep b o e n hb hx)
 .obtain⟨sl,e1⟩:=I.base.slot b o e n hb hx;exact⟨sl,(hs.2 b (aah (xT (V3 e) I.ok.above))).trans e1⟩
 .obtain⟨o',e1⟩:=I.base.there b o e hx;exact⟨o',(hs.2 b (aah (xT (V3 e) I.ok.above))).trans e1⟩
 .have Au:i<σ.length:=by rw[I.len];exact(List.getElem?_eq_some_iff.mp hi).1
  by_cases hj:j=i
  .subst hj;rw[WS Au]at e2;cases e2
  .rw[UJ (aa1 hj)]at e2;obtain⟨u',r',q⟩:=hl j y v' e1 e2 e3;refine⟨u',r',?_⟩;rcases q with ⟨k,e⟩|⟨k,c,e,z⟩
   .refine .inl ⟨k,?_⟩;have:y≠x:=λe=>hj (qf hN e1 (e▸hi));simp[this,e]
   .exact .inr ⟨k,c,e,z.sameBut hs (nD y c e)⟩
 .obtain⟨w',z⟩:=I.cell y c e;exact⟨w',z.sameBut hs (nD y c e)⟩
 .obtain⟨e,n,ne,nf,d⟩:=I.pin p hp;exact⟨(hs.2 p.1 ne).trans e,n,ne,nf,d⟩
structure FJ(K:PySem.W.Frag)(mg:Str->Option Value)(rf:Addr)(rd:FuncData)(uV:Stmt)(Wc:Addr)(KC:Addr->Nat->Prop):Prop where
 fn:nL K "_law_refused" "_law_refused" uV rf rd
 sc:bH ["_law_e","_law_flags"] ["_law_e"] (aB uV)
 bd:Binds K rd ["_law_e"] []
 mr:mg "_law_refused" = some (.ref rf)
 mw:mg "WayError" = some (.ref Wc)
 body:∀(Y:Cx) (a:Addr) (oe:Obj) (C:Addr) (c:Nat),Y.N=(["_law_e","_law_flags"]:List Str)->Y.env.scope=aB uV->Y.K=K->Y.mg=mg->(a,oe)∈Y.pn->oe.cls=.ref C->(∃vs,oe.data=.fields vs)->KC C c->
  fD Y (cG uV) (λD σ H=>σ=[some (.ref a),none]/\∀p H',(∀b o,H b=some o->H' b=some o)->H' p=some (.tup [.str "refused",.int c])->D.rt (.ref p) H')
def Oj{rf:Addr}{rd:FuncData}{uV:Stmt}{Wc:Addr}{KC:Addr->Nat->Prop}{c i:Nat}{D:Ends}{p1 p2 p3 p4 p5 p6:Pos}{E:Value->Shared->Prop}(R:FJ X.K X.mg rf rd uV Wc KC)(k:KC C c)(kw:exmOne X.K (.ref C) (.ref Wc)=some true)
  (hs:X.stack=X.env :: X.outer) (hf:X.env.frame=some X.env.locals) (dp:X.A.depth<recursionLimit) (hN:X.N.Nodup) (hi:X.N[i]?=some ("_law_e" : Str)) (hk:X.env.scope.names.lookup ("_law_e" : Str)=some .local) (g1:Gl X "_law_refused") (g2:Gl X "WayError")
  (I1:Inv X pins σ H s) (f:je X.prog X.w X.stack H s a C H' s') (q:∀p lW,(∀b o,H' b=some o->lW b=some o)->lW p=some (.tup [.str "refused",.int c])->D.rt (.ref p) lW) :
  wpAny (model X.prog X.w) X.A (noteFrame (.ref a) X.env) (λ_ s₂=>wpAny (model X.prog X.w) X.A (setFlight (.ref a) none) (λ_ s₃=>wpAny (model X.prog X.w) X.A (handleBy (.ref a) X.env [.ExceptHandler (some (.Name "WayError" p1)) (some "_law_e") [.Return (some (.Call (.Name "_law_refused" p2) [.Name "_law_e" p3] [] p4)) p5] p6]) (SP X pins D) E s₃) E s₂) E s':=by
 refine Be I1 f hs hf λs2 f2=>?_;have I2:=f2.inv I1;have X8:=f2.un;refine wpAny_handleBy_cons (codeAny_handlers_test ?_) (λz=>nomatch z);refine abc I2.ok.kind g2 (abK (by rw[I2.ok.glob];exact I2.mod.glob.keeps I2.bk) R.mw ?_) (by decide);refine exm_one I2.jE (o7 f2.xi) kw _ _ _ _ (λ_ _ e=>e) ?_;show codeAny _ _ (Code.handlers (.ref a) [.ExceptHandler none (some "_law_e") _ p6] X.env) _ s2;refine codeAny_handlers_suite_as ?_;refine f2.on (qq I1 X8) λs3 f3=>?_;have I3:=f3.inv I1;obtain⟨nf,na⟩:=f3.new;obtain⟨oe,x1,x2,vs,x3⟩:=f3.xi;refine uq I3 hN hi (.inl hk) (v:=.ref a) rfl (λs4 I4 ⟨b,Yb,hb⟩=>?_) (.inr hk);have hab:a≠b:=λz=>by
  subst z;rcases hb with z|z
  .obtain⟨m,⟨o,es,ep,e1,e2,_⟩,_⟩:=I3.loc;rw[<-z,x1]at e1;cases e1;rw[x3]at e2;cases e2
  .obtain⟨v,o,e1,e2⟩:=I3.cell _ _ z;rw[x1]at e1;cases e1;rw[x3]at e2;cases e2
 have x4:s4.heap.get? a=some oe:=(Yb.2 a hab).trans x1;have hσ:(σ.set i (some (V.ref a)))[i]?=some (some (.ref a)):=WS (by rw[I3.len];exact(List.getElem?_eq_some_iff.mp hi).1);refine abo (ace (aaO ?_));refine abc I4.ok.kind g1 (abK (by rw[I4.ok.glob];exact I4.mod.glob.keeps I4.bk) R.mr ?_) (by decide);refine callWith_K (h₀:=X.base) I4.ok.mod.cW R.fn.kp ?_ rfl rfl;show wpAny _ _ (spliced ((false,eval (.Name "_law_e" p3) X.env) :: [])) _ _ _;refine abk ?_;obtain⟨m,hn,hl⟩:=I4.loc;obtain⟨u,r,l⟩:=hl i _ _ hi hσ (.inl hk);cases r;have hm:m "_law_e" = some (.ref a):=by
  rcases l with ⟨_,e⟩|⟨z,_⟩
  .exact e
  .rcases z with z|z<;>rw[show X.env.kindOf "_law_e" = X.env.scope.names.lookup ("_law_e" : Str)from rfl,hk]at z<;>cases z
 refine acH (wpAny_loadName_local I4.ok.kind hk hn hm ?_) (by decide);refine abm ⟨I4.jE,?_⟩;have e0:sM X.prog X.w X.K X.mg X.base (X.A.mark (some (.ref a))) X.stack s4 H':=⟨I4.lD.frames,I4.lD.mod,I4.lD.bs,I4.lD.nC,I4.lD.iz,I4.lD.pR,I4.lD.hok,I4.lD.bare⟩
 refine acg (abW (FH (args:=⟨[.ref a],[]⟩) (us:=[.ref a]) (vs:=[.ref a]) (Q:=λv lW=>∃p,v=.ref p/\(∀b o,H' b=some o->lW b=some o)/\lW p=some (.tup [.str "refused",.int c])) R.fn R.sc dp e0 (R.bd s4 [.ref a] I4.jE rfl) (.cons rfl .nil) rfl x4 na nf (λv=>by rw[x3];exact λz=>nomatch z) λcdv Y hY=>⟨_,R.body Y a oe C c (by rw[hY];rfl) (by rw[hY];rfl) (by rw[hY];rfl) (by rw[hY];rfl) (by rw[hY];exact List.mem_singleton.mpr rfl) x2 ⟨vs,x3⟩ k,rfl,λp lW k1 k2=>⟨p,rfl,k1,k2⟩⟩) λres s5 hq=>?_);cases res with
 |error e=>exact hq.elim
 |ok fl=>
  cases fl with
  |next=>exact hq.elim
  |brk=>exact hq.elim
  |cont=>exact hq.elim
  |ret u5=>
   obtain⟨v,H5,Yc,RP,Yd,VP,r5,p,rfl,k1,k2⟩:=hq;have I5:Inv X pins _ H5 s5:=I4.vd (ch:=[]) Yc Yd VP RP (λb z=>absurd z (by simp));show wpAny _ _ (do bindName X.env "_law_e" .none;unbindBehindTheSuite X.env "_law_e" p6) _ _ s5;refine eZ (wpAny_bindName (qg I5 hN hi (.inl hk) (v:=.aU) rfl (λs6 I6=>?_) (.inr hk)));refine wpAny_onRaise (Dh I6 hN hi hk (v:=.aU) (WS (by simpa using (List.getElem?_eq_some_iff.mp hσ).1)) λs7 I7=>?_);exact⟨.ref p,_,H5,I7,r5,q p H5 k1 k2⟩
end
end Sm
namespace Sm
open PySem PySem.Spec PyProof.Rows L2
open Ev (D O Hh Fr R aL E Es Eo It T S Ss Fl Src bw bq TY BI ME)
abbrev Ij:List Value:=[.type "ValueError",.type "Exception",.type "BaseException",.type "object"]
noncomputable def Di (K:PySem.W.Frag) (C:Addr):Prop:=∃nm q N bs bm hdct sn sub ab col dd k0 k1 k2 k3 k5,K.lookup C=some (excClassObj nm q C N bs bm hdct sn sub ab col dd k0 k1 k2 k3 k5 "ValueError.__new__")/\bm.contains (.type "BaseException")=true/\∀h:Heap,K.In h->∃mN,h.Ns N mN/\mN "__init__" = none/\OwnTail h Ij bm
noncomputable def zu(K:PySem.W.Frag)(cl:Nat->Addr)(F:List Ev.Fn)(w n f:Nat):Sp:=λvs H Q E=>∃r h ds c h',aJ K H r ds vs/\HR K H r h/\Ev.cj F w n f ds h=some (c,h')/\∀H' r',HR K H' r' h'->Fm K r r' H H'->E (.ref (cl c)) none H'
inductive tX(K:PySem.W.Frag)(cl:Nat->Addr)(m:List Nat)(E:XK)(f:Fr->Hh->Ev.XR)(s:L2.St)(H:Hp):Prop
 |mk (r:List Addr) (fr:Fr) (h:Hh) (c:Nat) (h':Hh) (sr:SR K m H r fr s) (hr:HR K H r h) (e:f fr h=some (c,h')) (q:∀H' r',HR K H' r' h'->Fm K r r' H H'->E (.ref (cl c)) none H'):tX K cl m E f s H
structure GX(G:Tb)(cl:Nat->Addr)(dB:List (Str×Nat))(rz su:List Nat)(n:Nat)(sc:Scope)(N:List Str)(df:Bool)(E:XK)(X:Cx):Prop where
 g:Good G n sc N df X.gu
 own:PassesOwn (model X.prog X.w) X.A X.env X.xe
 ps:Passes (uT X.prog X.w) X E
 md:∀(pins:List (Addr×Obj)) (σ:L2.St) (H:Hp) (s:Shared) (h1:Heap) (e C:Addr) (args:List Value),Inv X pins σ H s->Heap.MadeExcOf s.heap h1 e (.ref C) args->E (.ref C) none H->X.xe (.ref e) { s with heap:=h1 }
 fn:∀(f:Nat) i,G.fi[f]?=some i->su.contains f=true->fM X.prog X.w X.K X.mg X.base (uT X.prog X.w) n i.addr i.fd i.ps (zu X.K cl G.F G.w n f)
 nz:∀f,rz.contains f=false->∀ds h,Ev.cj G.F G.w n f ds h=none
 cs:∀x c,(x,c)∈dB->X.mg x=some (.ref (cl c))/\Di X.K (cl c)
theorem PA.gu{X:Cx}{es:List Expr}{t:TA}(h:PA X.gu es t):PA X es t:=λpos pins s σ H Q I hw=>
 aas (h pos pins s σ H Q (I.jq _) hw) (λ_ _ ⟨vs,H',I',r,q⟩=>⟨vs,H',I'.gw,r,q⟩) λ_ _ z=>False.elim z
theorem PS.gu{X:Cx}{st:Stmt}{t:TS}(h:PS X.gu st t):PS X st t:=λpins s σ H D I hw=>
 aas (h pins s σ H D (I.jq _) hw) (λ_ _ q=>q.gw) λ_ _ z=>False.elim z
section
variable(G:Tb)(cl:Nat->Addr)(dB:List (Str×Nat))(rz su:List Nat)(n:Nat)(sc:Scope)(N:List Str)(df:Bool)(m:List Nat)
noncomputable def Dj(e:E)(x:Expr):Prop:=∀X Ex,GX G cl dB rz su n sc N df Ex X->PE X x (λs H _=>tX X.K cl m Ex (Ev.xe (Ev.run G.F G.w n) (Ev.cj G.F G.w n) e) s H)
noncomputable def Uy(es:Es)(xs:List Expr):Prop:=∀X Ex,GX G cl dB rz su n sc N df Ex X->PA X xs (λs H _=>tX X.K cl m Ex (Ev.xa (Ev.run G.F G.w n) (Ev.cj G.F G.w n) es) s H)
noncomputable def Dk(st:S)(x:Stmt):Prop:=∀X Ex,GX G cl dB rz su n sc N df Ex X->PS X x (λ_ s H=>tX X.K cl m Ex (Ev.xs (Ev.run G.F G.w n) (Ev.cj G.F G.w n) G.w st) s H)
noncomputable def lJ(ss:Ss)(xs:List Stmt):Prop:=∀X Ex,GX G cl dB rz su n sc N df Ex X->fD X xs (λ_ s H=>tX X.K cl m Ex (Ev.xss (Ev.run G.F G.w n) (Ev.cj G.F G.w n) G.w ss) s H)
end
section
variable{G:Tb}{cl:Nat->Addr}{dB:List (Str×Nat)}{rz su:List Nat}{n:Nat}{sc:Scope}{N:List Str}{df:Bool}{m:List Nat}{a b:E}{xa xb:Expr}{pos:Pos}
def wL{es:Es}{xs:List Expr}(h:Ev.yY rz es=true):Uy G cl dB rz su n sc N df m es xs:=λX Ex g pos pins s σ H Q I q=>by
 obtain⟨r,fr,h1,c,h',sr,hr,e,q⟩:=q;rw[Ev.AQ g.nz _ h]at e;cases e
def iK{s:Ss}{xs:List Stmt}(h:Ev.lH rz s=true):lJ G cl dB rz su n sc N df m s xs:=λX Ex g pins s σ H Q I q=>by
 obtain⟨r,fr,h1,c,h',sr,hr,e,q⟩:=q;rw[Ev.mR g.nz _ h]at e;cases e
def Bf{f:Nat}{i:FI}{es:Es}{x:Str}{e0:Expr}{xs:List Expr}{p:Pos}(h:uS sc x=true)(hu:su.contains f=true)(hf:G.fi[f]?=some i)(hx:i.name=x)(hs:JA G n sc N df m es (e0 :: xs))(ks:Uy G cl dB rz su n sc N df m es (e0 :: xs))
  (hst:∀env:Env,starEach (e0 :: xs) env=(false,eval e0 env) :: starEach xs env:=by intro _;rfl) (hpl:∀env:Env,(backTo pos (starEach xs env)).any (·.1)=false:=by intro _;rfl) :
  Dj G cl dB rz su n sc N df m (.cl f es) (.Call (.Name x p) (e0 :: xs) [] pos):=λX Ex g pins s σ H Q I q=>by
 subst hx;unfold uS at h;simp only[GY,aaX]at h;obtain⟨h1,h2,h3,_⟩:=g.g.fn f i hf;have hg:Gl X i.name:=g.g.gl (by simpa using h.1);obtain⟨r,fr,hh,c,h',sr,hr,e,q⟩:=q;simp only[Ev.xe]at e;split at e
 .rename_i ds hd ey;refine sN (g.fn f i hf hu) g.g.room hg h1 h2 h3 .nil g.ps (PA.gu (hs X.gu g.g)) h.2 (hst _) (hpl _) pins s σ H Q I ⟨r,fr,hh,ds,hd,sr,hr,ey,λvs H1 r1 v1 hr1 f1=>?_⟩;exact⟨r1,hd,ds,c,h',by rw[aae];exact v1,hr1,e,λH' r' y1 y2=>q H' r' y1 (f1.trans y2)⟩
 .exact sN (g.fn f i hf hu) g.g.room hg h1 h2 h3 .nil g.ps (ks X Ex g) h.2 (hst _) (hpl _) pins s σ H Q I ⟨r,fr,hh,c,h',sr,hr,e,q⟩
def RQ(ka:Dj G cl dB rz su n sc N df m a xa)(hs:oU xb:=by intro _ _;rfl):Dj G cl dB rz su n sc N df m (.ix a b) (.Subscript xa xb pos):=λX Ex g pins s σ H Q I q=>by
 obtain⟨r,fr,hh,c,h',sr,hr,e,q⟩:=q;simp only[Ev.xe]at e;exact Hl (r:=λ_ _ _ _=>False) (λ_ _ _ _ _ _ _ _ _ _ _ _ _ _ z _=>z.elim) (ka X Ex g) (tb:=λ_ _ _=>False) (λ_ _ _ _ _ _ z=>z.elim) hs pins s σ H Q I ⟨r,fr,hh,c,h',sr,hr,e,q⟩
def KD(ka:Dj G cl dB rz su n sc N df m a xa):Dk G cl dB rz su n sc N df m (.ret a) (.Return (some xa) pos):=λX Ex g pins s σ H Q I q=>by
 obtain⟨r,fr,hh,c,h',sr,hr,e,q⟩:=q;simp only[Ev.xs]at e;exact vI (ka X Ex g) pins s σ H Q I ⟨r,fr,hh,c,h',sr,hr,e,q⟩
def zv{i:Nat}{x:Str}{pos':Pos}(h:gB sc N df m x i=true)(ka:Dj G cl dB rz su n sc N df m a xa)(hs:∀env:Env,swapsWith xa (some (.Name x pos')) pos.line env=pure false:=by intro _;rfl):Dk G cl dB rz su n sc N df m (.set i a) (.Assign [.Name x pos'] xa pos):=λX Ex g pins s σ H Q I q=>by
 obtain⟨r,fr,hh,c,h',sr,hr,e,q⟩:=q;simp only[Ev.xs]at e;obtain⟨j,e1,e2,e3,e4,e5⟩:=gB.of h;obtain⟨h1,h2⟩:=g.g.loc e3;exact qR (X:=X) (i:=j) (by rw[show X.N=N from g.g.nm];exact e5) (by rw[show X.N=N from g.g.nm];exact e2) h1 (ka X Ex g) (hs _) h2 pins s σ H Q I ⟨r,fr,hh,c,h',sr,hr,e,q⟩
def zw{ta tb:Ss}{ya yb:List Stmt}(hc:JT G n sc N df m a xa)(kc:Ev.nM rz a=true)(h1:lJ G cl dB rz su n sc N df m ta ya)(h2:lJ G cl dB rz su n sc N df m tb yb):Dk G cl dB rz su n sc N df m (.iff a ta tb) (.If xa ya yb pos):=λX Ex g pins s σ H Q I q=>by
 obtain⟨r,fr,hh,c,h',sr,hr,e,q⟩:=q;simp only[Ev.xs]at e;split at e
 .rename_i k h3 ey;refine Av (PT.gu (hc X.gu g.g)) (h1 X Ex g) (h2 X Ex g) pins s σ H Q I ⟨r,fr,hh,k,h3,sr,hr,ey,λH1 r1 hr1 f1=>?_⟩;cases k with
  |true=>exact⟨r1,fr,h3,c,h',sr.mono f1,hr1,by simpa using e,λH' r' y1 y2=>q H' r' y1 (f1.trans y2)⟩
  |false=>exact⟨r1,fr,h3,c,h',sr.mono f1,hr1,by simpa using e,λH' r' y1 y2=>q H' r' y1 (f1.trans y2)⟩
 .rw[Ev.qh g.nz _ kc]at e;cases e
def gA{st:S}{ss:Ss}{x:Stmt}{xs:List Stmt}(h1:JS G n sc N df m st x)(k1:Dk G cl dB rz su n sc N df m st x)(ks:lJ G cl dB rz su n sc N df m ss xs):lJ G cl dB rz su n sc N df m (.cons st ss) (x :: xs):=λX Ex g pins s σ H Q I q=>by
 obtain⟨r,fr,hh,c,h',sr,hr,e,q⟩:=q;simp only[Ev.xss]at e;split at e
 .rename_i af h3 ey;exact jr (PS.gu (h1 X.gu g.g)) (ks X Ex g) pins s σ H Q I ⟨r,fr,hh,.nx,af,h3,sr,hr,ey,λs1 H1 r1 vZ hr1 f1=>⟨r1,af,h3,c,h',vZ,hr1,e,λH' r' y1 y2=>q H' r' y1 (f1.trans y2)⟩⟩
 .cases e
 .exact jr (k1 X Ex g) (ks X Ex g) pins s σ H Q I ⟨r,fr,hh,c,h',sr,hr,e,q⟩
def zx{c:Nat}{x t:Str}{np cp p1 pos:Pos}{j:Nat}(hx:(x,c)∈dB:=by decide +kernel)(h:uS sc x=true:=by decide +kernel):Dk G cl dB rz su n sc N df m (.eU c) (.Raise (some (.Call (.Name x np) [.Constant (.str t) j p1] [] cp)) none pos):=λX Ex g pins s σ H Q I q=>by
 obtain⟨r,fr,hh,c',h',sr,hr,e,q⟩:=q;simp only[Ev.xs]at e;cases e;unfold uS at h;simp only[GY,aaX]at h;have hg:Gl X x:=g.g.gl (by simpa using h.1);obtain⟨hm,nm,qn,Nn,bs,bm,hdct,sn,sub,ab,col,dd,k0,k1,k2,k3,k5,lk,hb,hN⟩:=g.cs x _ hx;have qE:=q H r hr .refl;obtain⟨mN,n1,n2,n3⟩:=hN s.heap I.jE;refine wpAny_Raise_call_subT (nm:=nm) (q:=qn) (N:=Nn) (bs:=bs) (hdct:=hdct) (sn:=sn) (sub:=sub) (ab:=ab) (col:=col) (dd:=dd) (k0:=k0) (k1:=k1) (k2:=k2) (k3:=k3) (k5:=k5) PySem.F.excBase_ValueError hb g.g.room.hd rfl n2 (oS I hg hm ⟨rfl,?_⟩ h.2);refine Calls.evalArgs_plain ?_;show wpAny _ _ (spliced ((false,eval (.Constant (.str t) j p1) X.env) :: [])) _ _ _;refine abk (Calls.Constant_str (abm ⟨rfl,by show 1<=sizeLine;decide,I.jE _ _ lk,n1,n3,λh1 e mk=>?_⟩));exact g.md pins σ H { s with toks:=s.toks+1 } h1 e _ _ (I.tok _) mk qE
section
variable{P:Program}{w:World}{K:PySem.W.Frag}{mg:Str->Option Value}{base:Heap}
noncomputable def nV(P:Program)(w:World)(K:PySem.W.Frag)(mg:Str->Option Value)(base:Heap)(G:Tb)(cl:Nat->Addr)(su:List Nat)(n:Nat):Prop:=∀(f:Nat) i,G.fi[f]?=some i->su.contains f=true->fM P w K mg base (uT P w) n i.addr i.fd i.ps (zu K cl G.F G.w n f)
def Ol{f:Addr}{fd:FuncData}{ps:List Str}{k:Nat}(z:∀ds h,Ev.cj G.F G.w n k ds h=none):fM P w K mg base (uT P w) n f fd ps (zu K cl G.F G.w n k):=by
 have no:∀vs H Q E,¬ zu K cl G.F G.w n k vs H Q E:=λvs H Q E h=>by
  obtain⟨r,h,ds,c,h',_,_,e,_⟩:=h;rw[z]at e;cases e
 exact⟨λvs H Q E h=>absurd h (no vs H Q E),λA outer s H args us vs Q E _ _ _ _ h=>absurd h (no vs H Q E)⟩
def rq{x qual:Str}{st:Stmt}{i:FI}{N:List Str}{f:Nat}{fn:Ev.Fn}(T:Top P w K mg G)(A0:oY P w K mg base G n)(A1:nV P w K mg base G cl su n)(hz:Ev.pU rz 0 G.F=true)(hc:∀x c,(x,c)∈dB->mg x=some (.ref (cl c))/\Di K (cl c))
  (F:nL K x qual st i.addr i.fd) (S:bH N i.ps (aB st)) (hf:G.F[f]?=some fn) (hp:i.ps.length=fn.np)
  (hb:lJ G cl dB rz su n (aB st) N true (List.range N.length) fn.body (cG st)):fM P w K mg base (uT P w) (n+1) i.addr i.fd i.ps (zu K cl G.F G.w (n+1) f):=by
 have hlen:∀vs H Q E,zu K cl G.F G.w (n+1) f vs H Q E->vs.length=i.ps.length:=λvs H Q E h=>by
  obtain⟨r,h,ds,c,h',v1,_,e,_⟩:=h;simp only[Ev.jb,hf]at e;split at e
  .rename_i z;rw[v1.length,z,hp]
  .cases e
 obtain⟨oc,od,kV,doc,pm,an,cdv,ct,osl,e0,lk,hcd⟩:=F.ex;rw[e0]at lk ⊢;refine Hj lk hcd S hlen λA outer s H vs Q Ex hr iW=>?_;have hl:=hlen vs H Q Ex iW;have hN:vs.length<=N.length:=by
  have:=aab List.length S.pre;rw[aa4]at this;omega
 have g:Good G n (aB st) N true (jJ (uT P w) P w K mg base N qual (aB st) i.addr cdv A outer s H Ex).gu:=
  ⟨rfl,rfl,rfl,λ_ _=>rfl,hr,rfl,λf i hi=>⟨(T.fn f i hi).1,(T.fn f i hi).2.1,(T.fn f i hi).2.2,A0 f i hi⟩,T.bl,T.cs,T.dk⟩
 have gx:GX G cl dB rz su n (aB st) N true Ex (jJ (uT P w) P w K mg base N qual (aB st) i.addr cdv A outer s H Ex):=
  ⟨g,PassesOwn.leaving,λpins σ H1 s1 e s' I ⟨a,C,H',h1,fl,q⟩=>by
    subst h1;exact FF rfl rfl rfl I fl λs'' wJ=>⟨a,C,H',rfl,wJ,q⟩,
   λpins σ H1 s1 h1 e C args I mk q=>Bd rfl rfl rfl I mk λs'' wJ=>⟨e,C,H1,rfl,wJ,q⟩,A1,Ev.yZ hz G.w n,hc⟩
 refine⟨_,hb _ Ex gx,?_⟩;obtain⟨r,h,ds,c,h',v1,hr1,e,q⟩:=iW;simp only[Ev.jb,hf]at e;split at e
 .exact⟨r,Ev.dM fn ds,h,c,h',qk v1 hN,hr1,e,q⟩
 .cases e
def Om{X:Cx}{k:Nat}{f:Addr}{fd:FuncData}{ps:List Str}{sp:Sp}{x:Str}{p pos:Pos}{e:Expr}{es:List Expr}{t:TA}{pins:List (Addr×Obj)}{σ:L2.St}{H:Hp}{s:Shared}{Ex:XK}{Q:Value->Shared->Prop}{E':Value->Shared->Prop}
  (F:fM X.prog X.w X.K X.mg X.base (uT X.prog X.w) k f fd ps sp) (hr:fL k X.A) (hg:Gl X x) (hm:X.mg x=some (.ref f)) (hk:PySem.W.keepIn X.K (.ref f)=true) (hb:Binds X.K fd ps []) (hd:(x==("__debug__" : Str))=false) (ha:PA X (e :: es) t) (Ye:X.xe=λ_ _=>False)
  (hst:starEach (e :: es) X.env=(false,eval e X.env) :: starEach es X.env) (hpl:(backTo pos (starEach es X.env)).any (·.1)=false)
  (I:Inv X pins σ H s) (h:t σ H λvs H1=>sp vs H1 (λ_ _=>False) Ex) (q:∀H1 s1 a C H' s',Inv X pins σ H1 s1->je X.prog X.w X.stack H1 s1 a C H' s'->Ex (.ref C) none H'->E' (.ref a) s') :
  wpAny (model X.prog X.w) X.A (eval (.Call (.Name x p) (e :: es) [] pos) X.env) Q E' s:=by
 refine aaO (oS I hg hm ?_ hd);refine acT (h₀:=X.base) I.ok.mod.cW hk (aas (ha pos pins s σ H _ I h) (λus s1 ⟨vs,H1,I1,r,q1⟩=>⟨I1.jE,?_⟩) (λ_ _ z=>by rw[Ye]at z;exact z.elim)) hst hpl;have hl:us.length=ps.length:=by rw[<-r.length];exact F.len _ _ _ _ q1
 have hb1:=hb s1 us I1.jE (by rw[aae];exact hl);rw[aae]at hb1;refine acg (abW (F.run X.A X.stack s1 H1 ⟨us,[]⟩ us vs _ Ex hr I1.lD hb1 r q1) λres s' hq=>?_);cases res with
 |error e=>
  obtain⟨a,C,H',rfl,fl,e1⟩:=hq;exact q H1 s1 a C H' s' I1 fl e1
 |ok fl=>
  cases fl with
  |ret u=>obtain⟨v,H',_,_,_,_,_,z⟩:=hq;exact z.elim
  |next=>exact hq.elim
  |brk=>exact hq.elim
  |cont=>exact hq.elim
def KG{H H':Hp}{r:List Addr}{h:Hh}(k:∀b o,H b=some o->H' b=some o):Fm K r r H H'/\(HR K H r h->HR K H' r h):=by
 have f:Fm K r r H H':=⟨λ_ _ e=>e,λ_ e=>.inl e,λa o e _=>k a o e,λa vs e=>by
  rcases e with (e|⟨ob,e⟩)|e
  .exact .inl (.inl (k _ _ e))
  .exact .inl (.inr ⟨ob,k _ _ e⟩)
  .exact .inr e⟩
 refine⟨f,λhr=>⟨hr.len,λn o e=>?_,hr.inj
  ⟩⟩
 obtain⟨a,e1,q⟩:=hr.ob n o e;exact⟨a,e1,q.mono f (λ_ _ _ z=>k _ _ z) (λ_ _ z=>k _ _ z)
  (λ_ _ z _=>k _ _ z)
  ⟩
def Oo{F:List Ev.Fn}{w n f:Nat}{ds:List D}{h h':Hh}{d:D}(hF:F.length<=1000)(e:Ev.run F w n (f+Ev.xo) ds h=.ok d h'):∃c:Nat,d=.int c/\Ev.cj F w n f ds h=some (c,h'):=by
 cases n with
 |zero=>cases e
 |succ n=>
  rw[Ev.gf,aaw (by show F.length<=f+1000;omega)]at e;simp only[Ev.ni]at e;rw[mD (Nat.le_add_left _ _),abC]at e;split at e
  .rename_i c h2 z;cases e;exact⟨c,rfl,z⟩
  .cases e
theorem tL{base:Heap}(st:∀n,oY P w K mg base G n->nV P w K mg base G cl su n->oY P w K mg base G (n+1)/\nV P w K mg base G cl su (n+1)):∀n,oY P w K mg base G n/\nV P w K mg base G cl su n
 |0=>⟨λf i _=>J4,λf i _ _=>Ol λ_ _=>rfl⟩
 |n+1=>st n (tL st n).1 (tL st n).2
end
end
end Sm
namespace Sm
open PySem PySem.Spec PyProof.Rows L2 PySem.W
noncomputable def wN(K:PySem.W.Frag)(N:Addr):Bool:=nsOkIn K N&&quietNames.all λn=>nsIn K N n==some none
noncomputable def Uz(K:PySem.W.Frag)(C Wc D0 D1 D2 D3:Addr)(c:Nat):Bool:=
 findIn K (.ref C) "__getattribute__" ==some (some (.builtin "BaseException.__getattribute__"))&&findIn K (.ref C) "__getattr__" ==some none&&findIn K (.ref C) "__class__" ==some (some (.builtin "object.__class__"))
 &&subIn K (.ref C) (.type "object")==some true&&kitCls K (.ref C) (.ref C)==some true
 &&kitOne K (.ref C) (.ref D0)==some (decide (c=0))&&kitOne K (.ref C) (.ref D1)==some (decide (c=1))&&kitOne K (.ref C) (.ref D2)==some (decide (c=2))&&kitOne K (.ref C) (.ref D3)==some (decide (c=3))
 &&kitOne K (.ref C) (.type "ValueError")==some true&&exmOne K (.ref C) (.ref Wc)==some true&&decide (c<4)
structure wO(K:PySem.W.Frag)(x:Str)(C Wc D0 D1 D2 D3:Addr)(c:Nat):Prop where
 ns:nsIn K mainGlobals x=some (some (.ref C))
 rs:Di K C
 cs:HS K C c D0 D1 D2 D3
 em:exmOne K (.ref C) (.ref Wc)=some true
def wN.ns{K:PySem.W.Frag}{N:Addr}{h:Heap}(q:wN K N=true)(cW:K.In h):∃m,h.Ns N m/\∀n∈quietNames,m n=none:=by
 unfold wN at q;rw[GY]at q;have hn:=Heap.Ns.of_isNs (isNs_of_in cW q.1);exact⟨_,hn,λn hn'=>nsMap_none_of_in cW q.1 (beq_iff_eq.mp (List.all_eq_true.mp q.2 n hn'))⟩
def o8{K:PySem.W.Frag}{x:Str}{C Wc D0 D1 D2 D3 N:Addr}{c:Nat}{nm q:Str}{bs:List Value}{hdct:Bool}{sn:List Str}{sub:List Value}{ab:Bool}{col:Option Bool}{dd Yg:Option Addr}{k0 k1 k2 k3 k5:Option Value}{c0:Value}{cd:ClassData}{sl:Array (Option Value)}
  (a:nsIn K mainGlobals x=some (some (.ref C))) (l:K.lookup C=some (excClassObj nm q C N bs (.ref Wc :: Ij) hdct sn sub ab col dd k0 k1 k2 k3 k5 "ValueError.__new__")) (lw:K.lookup Wc=some ⟨c0,Yg,.cls cd,sl⟩) (n:wN K N=true) (nw:wN K cd.ns=true) (f:Uz K C Wc D0 D1 D2 D3 c=true):wO K x C Wc D0 D1 D2 D3 c:=by
 unfold Uz at f;simp only[GY,beq_iff_eq,abd]at f;obtain⟨⟨⟨⟨⟨⟨⟨⟨⟨⟨⟨f1,f2⟩,f3⟩,f4⟩,f5⟩,f6⟩,f7⟩,f8⟩,f9⟩,uN⟩,zy⟩,Dl⟩:=f;have tq:∀h:Heap,K.In h->OwnTailQ h Ij (.ref Wc :: Ij):=λh cW=>by
  obtain⟨m,h1,h2⟩:=wN.ns nw cW;exact .own (cW _ _ lw) h1 h2 .base
 refine⟨a,⟨_,_,_,_,_,_,_,_,_,_,_,_,_,_,_,_,l,rfl,λh cW=>?_⟩,⟨⟨⟨_,_,_,_,_,_,_,_,_,_,_,_,_,_,_,_,_,l,tq⟩,f1,f2,f3,f4,f5⟩,f6,f7,f8,f9,uN,Dl⟩,zy⟩;obtain⟨m,h1,h2⟩:=wN.ns n cW;exact⟨m,h1,h2 _ (by simp[quietNames]),(tq h cW).tail⟩
end Sm
namespace Sm
open PySem PySem.Spec PyProof.Rows L2
open Ev (D O Hh Fr R aL E Es Eo It T S Ss Fl Src bw bq TY BI ME)
section
variable(G:Tb)(cl:Nat->Addr)(nc:Nat)(su:List Nat)(n:Nat)(sc:Scope)(N:List Str)
noncomputable def HX (X:Cx) (pins:List (Addr×Obj)) (σ:L2.St) (R:VK) (E':Value->Shared->Prop):Prop:=∀(H2:Hp) (s2:Shared) (a:Addr) (c:Nat) (H':Hp) (s':Shared),Inv X pins σ H2 s2->je X.prog X.w X.stack H2 s2 a (cl c) H' s'->c<nc->(∀p lW,(∀b o,H' b=some o->lW b=some o)->lW p=some (.tup [.str "refused",.int c])->R (.ref p) lW)->E' (.ref a) s'
noncomputable def Dm(ss:Ss)(x:Expr):Prop:=∀X,Good G n sc N true X->nV X.prog X.w X.K X.mg X.base G cl su n->∀(pins:List (Addr×Obj)) (s:Shared) (σ:L2.St) (H:Hp) (D:Ends) (E':Value->Shared->Prop),Inv X pins σ H s->mS X.K (List.range N.length) (Ev.run G.F G.w n) G.w ss D σ H->HX cl nc X pins σ D.rt E'->wpAny (model X.prog X.w) X.A (eval x X.env) (EP X pins σ D.rt) E' s
noncomputable def TB(ss:Ss)(xs:List Stmt):Prop:=∀X,Good G n sc N true X->nV X.prog X.w X.K X.mg X.base G cl su n->∀(pins:List (Addr×Obj)) (s:Shared) (σ:L2.St) (H:Hp) (D:Ends) (E':Value->Shared->Prop),Inv X pins σ H s->mS X.K (List.range N.length) (Ev.run G.F G.w n) G.w ss D σ H->HX cl nc X pins σ D.rt E'->wpAny (model X.prog X.w) X.A (execs xs X.env) (λf s2=>∃u,f=.ret u/\EP X pins σ D.rt u s2) E' s
end
section
variable{G:Tb}{cl:Nat->Addr}{nc:Nat}{su:List Nat}{n:Nat}{sc:Scope}{N:List Str}{a:E}{xa xb xc:Expr}{pos:Pos}{ta tb:Ss}
def qt{f:Nat}{j:FI}{es:Es}{x:Str}{e0:Expr}{xs:List Expr}{p cp:Pos}(hG:G.F.length<=1000)(hj:G.fi[f]?=some j)(hx:j.name=x)(Yh:su.contains f=true)(hs:JA G n sc N true (List.range N.length) es (e0 :: xs))(hcl:uS sc x=true)
  (se:∀env:Env,starEach (e0 :: xs) env=(false,eval e0 env) :: starEach xs env:=by intro _;rfl) (sp:∀env:Env,(backTo cp (starEach xs env)).any (·.1)=false:=by intro _;rfl) :
  Dm G cl nc su n sc N (.cons (.tr f nc es) .nil) (.Call (.Name x p) (e0 :: xs) [] cp):=λX g A1 pins s1 σ1 H1 D E' I q hx'=>by
 subst hx;obtain⟨r,fr,h,fl,aj,h',sr,hr',e,q⟩:=q;simp only[Ev.exs,Ev.ex]at e;obtain⟨⟨gg,af⟩,h2',e2,e⟩:=Ev.ah e;obtain⟨ds,h3',e3,e2⟩:=Ev.ah e2;obtain⟨y,YV,e4,e2⟩:=Ev.ah e2;cases e2;cases e;cases ey:Ev.run G.F G.w n f ds h3' with
 |ok d hd=>
  rw[ey]at e4;obtain⟨rfl,rfl⟩:d=y/\hd=h':=by simpa[Ev.tryD]using e4
  exact aas (Uq (pos:=cp) (p:=p) hcl hj rfl hs se sp X g pins s1 σ1 H1 D.rt I ⟨r,fr,h,d,_,sr,hr',by simp only[Ev.ev,e3,Ev.ak,ey],q⟩) (λ_ _ z=>z) (λ_ _ z=>by rw[g.xe]at z;exact z.elim)
 |bad=>
  rw[ey]at e4;simp only[Ev.tryD]at e4;obtain⟨dc,YW,e5,e4⟩:=Ev.ah e4;obtain⟨c,rfl,ex⟩:=Oo hG e5;obtain⟨e6,e7⟩:=Ev.aM e4;subst e7;simp only[Ev.Fb]at e6;split at e6
  case isFalse=>cases e6
  rename_i hc4;cases e6;have c4:c<nc:=by omega
  obtain⟨g1,g2,g3,_⟩:=g.fn f j hj;unfold uS at hcl;simp only[GY,aaX]at hcl;refine Om (Ex:=λv _ H'=>v=.ref (cl c)/\∃r',HR X.K H' r' h'/\Fm X.K r r' H1 H') (A1 f j hj Yh) g.room (g.gl (by simpa using hcl.1)) g1 g2 g3 hcl.2 (hs X g) g.xe (se _) (sp _) I ⟨r,fr,h,ds,h3',sr,hr',e3,λvs H2 r2 v2 hr2 f2=>⟨r2,h3',ds,c,h',v2,hr2,ex,λH' r' y1 y2=>⟨rfl,r',y1,f2.trans y2⟩⟩⟩ λH2 s2 a C H' s' I2 fl ⟨hC,r',kW,f3⟩=>?_;cases hC;refine hx' H2 s2 a c H' s' I2 fl c4 λp lW m1 m2=>?_;obtain⟨f4,Hw⟩:=KG (K:=X.K) (r:=r') (h:=h') m1;exact q _ lW r' ⟨p,[.str "refused",.int c],rfl,.of m2,⟨_,_,rfl,⟨by decide +kernel,by decide⟩,⟨_,_,rfl,rfl,rfl⟩⟩⟩ (Hw kW) (f3.trans f4)
def Dn{K:PySem.W.Frag}{m:List Nat}{P:aL}{w:Nat}{D:Ends}{σ:L2.St}{H:Hp}(q:mS K m P w (.cons (.iff a ta tb) .nil) D σ H):Hs K m P a σ H λk H1=>mS K m P w (if k then ta else tb) D σ H1:=by
 obtain⟨r,fr,h,fl,aj,h',sr,hr,e,q⟩:=q;simp only[Ev.exs,Ev.ex]at e;obtain⟨⟨gg,af⟩,h2,e2,e⟩:=Ev.ah e;obtain⟨k,h3,e1,e2⟩:=Ev.ah e2;have e':Ev.exs P w (if k then ta else tb) fr h3=.ok (fl,aj) h':=by
  have:(.ok (gg,af) h2:R (Fl×Fr))=.ok (fl,aj) h':=by cases gg<;>exact e
  rw[<-this];cases k<;>simpa using e2
 exact⟨r,fr,h,k,h3,sr,hr,e1,λH1 r1 hr1 f1=>⟨r1,fr,h3,fl,aj,h',sr.mono f1,hr1,e',q.later f1⟩⟩
def KH(hc:JT G n sc N true (List.range N.length) a xa)(h1:Dm G cl nc su n sc N ta xb)(h2:Dm G cl nc su n sc N tb xc):Dm G cl nc su n sc N (.cons (.iff a ta tb) .nil) (.IfExp xa xb xc pos):=λX g A1 pins s σ H D E' I q hx=>by
 refine wpAny_IfExp (aas (hc X g pins s σ H _ I (Dn q)) (λd s1 ⟨H1,I1,q1⟩=>?_) λ_ _ z=>by rw[g.xe]at z;exact z.elim);cases d with
 |true=>exact h1 X g A1 pins s1 σ H1 D E' I1 q1 hx
 |false=>exact h2 X g A1 pins s1 σ H1 D E' I1 q1 hx
def Dp(h:Dm G cl nc su n sc N ta xa):TB G cl nc su n sc N ta [.Return (some xa) pos]:=λX g A1 pins s σ H D E' I q hx=>
 abo (ace (bC (h X g A1 pins s σ H D E' I q hx) λu s1 z=>⟨u,rfl,z⟩))
def Oq{ya rest:List Stmt}(hc:JT G n sc N true (List.range N.length) a xa)(h1:TB G cl nc su n sc N ta ya)(h2:TB G cl nc su n sc N tb rest):TB G cl nc su n sc N (.cons (.iff a ta tb) .nil) (.If xa ya [] pos :: rest):=λX g A1 pins s σ H D E' I q hx=>by
 refine abo (wpAny_If (aas (hc X g pins s σ H _ I (Dn q)) (λd s1 ⟨H1,I1,q1⟩=>?_) λ_ _ z=>by rw[g.xe]at z;exact z.elim));cases d with
 |true=>exact bC (h1 X g A1 pins s1 σ H1 D E' I1 q1 hx) λf s2 ⟨u,e,z⟩=>by subst e;exact⟨u,rfl,z⟩
 |false=>exact abx (h2 X g A1 pins s1 σ H1 D E' I1 q1 hx)
section
variable{P:Program}{w:World}{K:PySem.W.Frag}{mg:Str->Option Value}{base:Heap}
def FL{x qual:Str}{st:Stmt}{i:FI}{N:List Str}{ft:Nat}{fn:Ev.Fn}{bs:List Stmt}{p1 p2 p3 p4 p5 p6 p7:Pos}{rf Wc:Addr}{KC:Addr->Nat->Prop}{rd:FuncData}{uV:Stmt}{ix:Nat}(T:Top P w K mg G)(A0:oY P w K mg base G n)(A1:nV P w K mg base G cl su n)
  (R:FJ K mg rf rd uV Wc KC) (kc:∀c,c<nc->KC (cl c) c/\PySem.W.exmOne K (.ref (cl c)) (.ref Wc)=some true)
  (F:nL K x qual st i.addr i.fd) (S:bH N i.ps (aB st)) (UA:G.F[ft]?=some fn) (hp:i.ps.length=fn.np)
  (hst:cG st=[.Try bs [.ExceptHandler (some (.Name "WayError" p1)) (some "_law_e") [.Return (some (.Call (.Name "_law_refused" p2) [.Name "_law_e" p3] [] p4)) p5] p6] [] [] p7])
  (hb:TB G cl nc su n (aB st) N fn.body bs) (h1:N[ix]?=some ("_law_e" : Str)) (h2:(aB st).names.lookup ("_law_e" : Str)=some .local) (h3:(aB st).names.lookup ("_law_refused" : Str)=some .globalImplicit) (h4:(aB st).names.lookup ("WayError" : Str)=some .globalImplicit) :
  fM P w K mg base jR (n+1) i.addr i.fd i.ps (nj K G.F G.w (n+1) ft):=by
 have hlen:∀vs H Q E,nj K G.F G.w (n+1) ft vs H Q E->vs.length=i.ps.length:=λvs H Q E h=>by
  obtain⟨r,h,ds,d,h',v1,_,e,_⟩:=h;simp only[Ev.gf,UA]at e;split at e
  .rename_i z;rw[v1.length,z,hp]
  .cases e
 refine F.ok S hlen λcdv A outer s H vs Q Ex hr iW=>?_;have hl:=hlen vs H Q Ex iW;have hN:vs.length<=N.length:=by
  have:=aab List.length S.pre;rw[aa4]at this;omega
 generalize hX:(jJ jR P w K mg base N qual (aB st) i.addr cdv A outer s H Ex).gu=X
 have g:Good G n (aB st) N true X:=by
  rw[<-hX];exact⟨rfl,rfl,rfl,λ_ _=>rfl,hr,rfl,λf i hi=>⟨(T.fn f i hi).1,(T.fn f i hi).2.1,(T.fn f i hi).2.2,A0 f i hi⟩,T.bl,T.cs,T.dk⟩
 have Yi:X.stack=X.env :: X.outer:=by rw[<-hX];rfl
 have xf:X.env.frame=some X.env.locals:=by rw[<-hX];rfl
 have xK:X.K=K:=by rw[<-hX];rfl
 have xm:X.mg=mg:=by rw[<-hX];rfl
 have F1:nV X.prog X.w X.K X.mg X.base G cl su n:=by rw[<-hX];exact A1
 refine⟨mS X.K (List.range N.length) (Ev.run G.F G.w n) G.w fn.body,?_,?_⟩
 .rw[hst];refine fD.of (yQ (t:=mS X.K (List.range N.length) (Ev.run G.F G.w n) G.w fn.body) λpins s1 σ1 H1 D I q=>?_) λQ s H q=>q;refine wpAny_Try_except ?_;refine aas (hb X g F1 pins s1 σ1 H1 D _ I q λH2 s2 a c H' s' I2 fl c4 q2=>?_) (λf s2 ⟨u,e,v,H',z1,z2,z3⟩=>?_) λ_ _ z=>z
  .obtain⟨k1,k2⟩:=kc c c4;exact Oj (i:=ix) (c:=c) (by rw[xK,xm];exact R) k1 (by rw[xK];exact k2) Yi xf g.room.depth (by rw[g.nm];exact S.nd) (by rw[g.nm];exact h1) (by rw[g.sc];exact h2) (g.gl h3) (g.gl h4) I2 fl q2
  .subst e;exact⟨v,σ1,H',z1,z2,z3⟩
 .obtain⟨r,h,ds,d,h',v1,hr1,e,q⟩:=iW;simp only[Ev.gf,UA]at e;split at e
  .unfold Ev.endOf at e;obtain⟨⟨fl,aj⟩,h2,e1,e⟩:=Ev.ah e;refine⟨r,Ev.dM fn ds,h,fl,aj,h2,by rw[xK];exact qk v1 hN,by rw[xK];exact hr1,e1,?_⟩;rw[xK];cases fl with
   |nx=>
    cases e;exact λs' H' r' _ hr' f'=>q _ H' r' rfl hr' f'
   |ret d'=>
    cases e;exact q
   |bk=>cases e
   |ct=>cases e
  .cases e
end
end
end Sm
namespace Pv
open Ev (D bw bq TY BI ME T E Es Eo It S Ss Fn big deep b2i rep bT cL bE aP cut bZ cJ slots)
def nd{α:Type _}{a b:α}(h:a=b):a=b:=h
inductive V where
 |aU|bl (b:Bool)|int (i:Int)|str (s:List Nat)|tup (l:List V)|lst (l:List V)|bY (l:List V)
 |dw (kvs:List (List Nat×List Nat))
inductive Sl where
 |val (v:V)|own (l:List V)|bor (l:List V)|ro (l:List V)
abbrev Fr:=List (Option Sl)
inductive R(α:Type) where
 |ok (a:α) (fr:Fr)
 |bad
noncomputable def R.bind{α β:Type}(r:R α)(f:α->Fr->R β):R β:=
 match r with
 |.ok a h=>f a h
 |.bad=>.bad
@[simp] theorem ak{α β:Type}(a:α)(h:Fr)(f:α->Fr->R β):(R.ok a h).bind f=f a h:=nd rfl
@[simp] theorem E7{α β:Type}(f:α->Fr->R β):(R.bad:R α).bind f=.bad:=nd rfl
def ah{α β:Type}{r:R α}{f:α->Fr->R β}{b:β}{h:Fr}(e:r.bind f=.ok b h):∃a h1,r=.ok a h1/\f a h1=.ok b h:=by
 cases r with
 |ok a h1=>exact⟨a,h1,rfl,e⟩
 |bad=>cases e
noncomputable def R.of{α:Type}(o:Option α)(h:Fr):R α:=match o with
 |some a=>.ok a h
 |none=>.bad
@[simp] theorem dh{α:Type}(a:α)(h:Fr):R.of (some a) h=.ok a h:=nd rfl
def aM{α:Type}{o:Option α}{h h':Fr}{a:α}(e:R.of o h=.ok a h'):o=some a/\h'=h:=by
 cases o with
 |none=>cases e
 |some b=>cases e;exact⟨rfl,rfl⟩
inductive Fl where
 |nx|bk|ct|ret (v:V)
mutual
noncomputable def ofD:D->Option V
 |.aU=>some .aU
 |.bl b=>some (.bl b)
 |.int i=>some (.int i)
 |.str s=>some (.str s)
 |.tup ds=>(wQ ds).map .tup
 |.ref _=>none
noncomputable def wQ:List D->Option (List V)
 |[]=>some []
 |d :: ds=>(ofD d).bind λv=>(wQ ds).map λvs=>v :: vs
end
noncomputable def b9(f:V->V->Option Bool):List V->List V->Option Bool
 |[],[]=>some true
 |x :: xs,y :: ys=>(f x y).bind λb=>(b9 f xs ys).bind λc=>some (b&&c)
 |_,_=>some false
noncomputable def eE:Nat->V->V->Option Bool
 |0,_,_=>none
 |_+1,.aU,.aU=>some true
 |_+1,.bl a,.bl b=>some (a==b)
 |_+1,.int a,.int b=>some (a==b)
 |_+1,.bl a,.int b=>some (b2i a==b)
 |_+1,.int a,.bl b=>some (a==b2i b)
 |_+1,.str a,.str b=>some (a==b)
 |n+1,.tup a,.tup b=>b9 (eE n) a b
 |n+1,.lst a,.lst b=>b9 (eE n) a b
 |n+1,.bY a,.lst b=>b9 (eE n) a b
 |n+1,.lst a,.bY b=>b9 (eE n) a b
 |_+1,.bY _,.bY _=>none
 |_+1,.dw _,_=>none
 |_+1,_,.dw _=>none
 |_+1,_,_=>some false
noncomputable def truthy:V->Bool
 |.aU=>false
 |.bl b=>b
 |.int i=>i != 0
 |.str s=>!s.isEmpty
 |.tup ds=>!ds.isEmpty
 |.lst ds=>!ds.isEmpty
 |.bY ds=>!ds.isEmpty
 |.dw kvs=>!kvs.isEmpty
noncomputable def eN(l:List V):Option V:=if l.length<=big then some (.lst l)else none
noncomputable def gD(l:List V):Option V:=if l.length<=big then some (.tup l)else none
noncomputable def bD:bw->V->V->Option V
 |.add,.int i,.int j=>some (.int (i+j))
 |.add,.str a,.str b=>if a.length+b.length<=big then some (.str (a++b))else none
 |.add,.tup a,.tup b=>if a.length+b.length<=big then some (.tup (a++b))else none
 |.add,.lst a,.lst b=>eN (a++b)
 |.sub,.int i,.int j=>some (.int (i - j))
 |.mul,.int i,.int j=>if bT i j then some (.int (i*j))else none
 |.mul,.str a,.int k=>if 0<=k/\k<=1000/\a.length<=1000 then some (.str (rep k.toNat a))else none
 |.mul,.tup a,.int k=>if 0<=k/\k<=1000/\a.length<=1000 then some (.tup (rep k.toNat a))else none
 |.mul,.lst a,.int k=>if 0<=k/\k<=1000/\a.length<=1000 then eN (rep k.toNat a)else none
 |.fdiv,.int i,.int j=>if 0<j/\j<1073741824 then some (.int (i / j))else none
 |.mod,.int i,.int j=>if 0<j then some (.int (i % j))else none
 |_,_,_=>none
noncomputable def cop(o:bq)(x y:V):Option Bool:=match o,x,y with
 |.eq,x,y=>eE deep x y
 |.ne,x,y=>(eE deep x y).map (!·)
 |.lt,.int i,.int j=>some (decide (i<j))
 |.gt,.int i,.int j=>some (decide (j<i))
 |_,_,_=>none
noncomputable def Bg:V->V->Option V
 |.dw kvs,.str k=>(Ev.sS kvs k).map .str
 |_,_=>none
noncomputable def cY(x y:V):Option V:=match x,y with
 |.tup ds,.int i=>bE ds i
 |.str s,.int i=>(bE s i).map λc=>.str [c]
 |.lst ds,.int i=>bE ds i
 |.bY ds,.int i=>bE ds i
 |_,_=>none
noncomputable def iZ(x:V)(lo hi:Option Int):Option V:=match x with
 |.tup ds=>some (.tup (cut ds lo hi))
 |.str s=>some (.str (cut s lo hi))
 |.lst ds=>eN (cut ds lo hi)
 |.bY ds=>eN (cut ds lo hi)
 |_=>none
noncomputable def toT:V->Option V
 |.tup l=>some (.tup l)
 |.lst l=>gD l
 |.bY l=>gD l
 |_=>none
noncomputable def tM:V->Option V
 |.lst l=>gD l.reverse
 |_=>none
noncomputable def boolsOf:List V->Option (List Bool)
 |[]=>some []
 |.bl b :: ds=>(boolsOf ds).map λr=>b :: r
 |_=>none
noncomputable def intsOf:List V->Option (List Int)
 |[]=>some []
 |.int i :: ds=>(intsOf ds).map λr=>i :: r
 |_=>none
noncomputable def strsOf:List V->Option (List (List Nat))
 |[]=>some []
 |.str s :: ds=>(strsOf ds).map λr=>s :: r
 |_=>none
noncomputable def pZ:V->Option (List V)
 |.lst l=>some l
 |.bY l=>some l
 |_=>none
noncomputable def dz(b:BI)(xs:List V):Option V:=match b,xs with
 |.len,[.str s]=>if s.length<=big then some (.int s.length)else none
 |.len,[.tup ds]=>some (.int ds.length)
 |.len,[x]=>(pZ x).map λds=>.int ds.length
 |.sum,[x]=>((pZ x).bind intsOf).map λis=>.int is.sum
 |.min,[.int i,.int j]=>some (.int (if j<i then j else i))
 |.lE,[.bl b]=>some (.int (if b then 1 else 0))
 |_,_=>none
noncomputable def fq(m:ME)(o:V)(xs:List V):Option V:=match m,o,xs with
 |.join,.str sep,[x]=>((pZ x).bind strsOf).bind λss=>if (ss.map (·.length)).sum+ss.length*sep.length<=big then some (.str (bZ sep ss))else none
 |_,_,_=>none
noncomputable def kC(m:ME)(l:List V)(xs:List V):Option (V×List V):=match m,xs with
 |.append,[x]=>if l.length<big then some (.aU,l++[x])else none
 |.extend,[.lst es]=>if l.length+es.length<=big then some (.aU,l++es)else none
 |.pop,[]=>match l[l.length - 1]? with
  |some x=>some (x,l.dropLast)
  |none=>none
 |.kq,[x,.int k]=>(Ev.cL l.length k).map λj=>(.aU,l.set j x)
 |_,_=>none
noncomputable def zA:ME->Bool
 |.extend=>true
 |_=>false
noncomputable def jf:ME->Bool
 |.append=>true
 |.extend=>true
 |.pop=>true
 |.kq=>true
 |_=>false
noncomputable def vf:V->Bool
 |.aU=>true
 |.bl _=>true
 |.int _=>true
 |.str _=>true
 |_=>false
noncomputable def Bh(x:V):List (D×D)->Option V
 |[]=>none
 | (k,v) :: r=>match (ofD k).bind λk'=>eE 1 k' x with
  |some true=>ofD v
  |some false=>Bh x r
  |none=>none
noncomputable def fz(x:V)(kvs:List (D×D)):Option V:=if vf x then Bh x kvs else none
noncomputable def fN:V->Option (List V)
 |.tup ds=>some ds
 |.str s=>some (s.map λc=>.str [c])
 |.lst ds=>some ds
 |.bY ds=>some ds
 |_=>none
noncomputable def Bj:V->Option (List V)
 |.tup ds=>some ds
 |_=>none
noncomputable def range(lo:Int)(n:Nat):List V:=(List.range n).map λ(i:Nat)=>.int (lo+i)
noncomputable def fO:List V->Option (List V)
 |[.int j]=>if -(2 ^ 62)<=j/\j<2 ^ 62 then some (range 0 j.toNat)else none
 |[.int i,.int j]=>if -(2 ^ 62)<=i/\i<2 ^ 62/\-(2 ^ 62)<=j/\j<2 ^ 62 then some (range i (j - i).toNat)else none
 |_=>none
noncomputable def cD:Int->List V->List V
 |_,[]=>[]
 |k,x :: xs=>.tup [.int k,x] :: cD (k+1) xs
noncomputable def put(fr:Fr)(i:Nat)(s:Sl):Option Fr:=match fr[i]? with
 |some (some (.bor _))=>none
 |some (some (.ro _))=>none
 |_=>some (fr.set i (some s))
noncomputable def cH:List Nat->List V->Fr->Option Fr
 |[],[],fr=>some fr
 |i :: is,d :: ds,fr=>(put fr i (.val d)).bind (cH is ds)
 |_,_,_=>none
noncomputable def bJ:T->V->Fr->Option Fr
 |.one i,d,fr=>put fr i (.val d)
 |.many l,.tup ds,fr=>cH l ds fr
 |_,_,_=>none
noncomputable def undef(t:T)(fr:Fr):Bool:=(slots t).all λi=>(fr[i]?.join).isNone
noncomputable def Sl.read:Sl->Sl
 |.own l=>.ro l
 |.bor l=>.ro l
 |s=>s
noncomputable def rA(fr:Fr):Fr:=fr.map (Option.map Sl.read)
noncomputable def Sl.eF:Sl->Sl
 |.own l=>.val (.lst l)
 |s=>s
noncomputable def gj(fr:Fr):Fr:=fr.map (Option.map Sl.eF)
noncomputable def Sl.walk:Sl->Sl
 |.own l=>.val (.lst l)
 |.bor l=>.ro l
 |s=>s
noncomputable def rB(is:List Nat)(fr:Fr):Fr:=is.foldl (λfr i=>match fr[i]? with
 |some (some s)=>fr.set i (some s.walk)
 |_=>fr) fr
noncomputable def Sl.out:Sl->Option (List V)
 |.bor l=>some l
 |.ro l=>some l
 |_=>none
noncomputable def Sl.lend:Sl->Option Sl
 |.own l=>some (.bor l)
 |.bor l=>some (.bor l)
 |.ro l=>some (.ro l)
 |.val _=>none
noncomputable def lent(fr:Fr)(i:Nat):Option Sl:=match fr[i]? with
 |some (some s)=>s.lend
 |_=>none
noncomputable def Sl.with:Sl->List V->Sl
 |.own _,l=>.own l
 |.bor _,l=>.bor l
 |s,_=>s
noncomputable def back:List Nat->List (List V)->Fr->Option Fr
 |[],[],fr=>some fr
 |i :: is,l :: ls,fr=>match fr[i]? with
  |some (some s)=>back is ls (fr.set i (some (s.with l)))
  |_=>none
 |_,_,_=>none
noncomputable def cK(f:V->Option (Option V)):List V->Option (List V)
 |[]=>some []
 |d :: ds=>(f d).bind λo=>(cK f ds).bind λr=>some (o.toList++r)
noncomputable def forL(f:V->Fr->R Fl):List V->Fr->R Fl
 |[],fr=>.ok .nx fr
 |d :: ds,fr=>(f d fr).bind λp af=>match p with
   |.nx=>forL f ds af
   |.ct=>forL f ds af
   |.bk=>.ok .nx af
   |.ret x=>.ok (.ret x) af
noncomputable def di(t:Fr->R Bool)(f:Fr->R Fl):Nat->Fr->R Fl
 |0,_=>.bad
 |n+1,fr=>(t fr).bind λb af=>if b then (f af).bind λp ao=>match p with
   |.nx=>di t f n ao
   |.ct=>di t f n ao
   |.bk=>.ok .nx ao
   |.ret x=>.ok (.ret x) ao
  else .ok .nx af
noncomputable def kj:Es->List Nat
 |.nil=>[]
 |.cons (.v i) es=>i :: kj es
 |.cons _ es=>kj es
noncomputable def UB(m:ME):E->List Nat
 |.v i=>if jf m then [i]else []
 |_=>[]
mutual
noncomputable def bQ:E->List Nat
 |.c _=>[]|.v _=>[]|.tup es=>gb es|.lst es=>gb es
 |.bin _ a b=>bQ a++bQ b|.cmp _ a b=>bQ a++bQ b
 |.nt a=>bQ a|.neg a=>bQ a|.an a b=>bQ a++bQ b|.orr a b=>bQ a++bQ b|.iX t a b=>bQ t++(bQ a++bQ b)
 |.ix a b=>bQ a++bQ b|.sl a lo hi=>bQ a++(lK lo++lK hi)
 |.jS a=>bQ a
 |.fh a b=>bQ a++bQ b
 |.cl _ es=>gb es++kj es|.bi _ es=>gb es|.me m o es=>bQ o++(gb es++UB m o)
 |.comp _ _ it _=>FO it
 |.gU it=>FO it
 |.gY _ a=>bQ a
 |.jT _=>[]|.ku a k=>bQ a++bQ k
 |.gy a=>bQ a
noncomputable def gb:Es->List Nat
 |.nil=>[]
 |.cons e es=>bQ e++gb es
noncomputable def lK:Eo->List Nat
 |.no=>[]
 |.yes e=>bQ e
noncomputable def FO:It->List Nat
 |.seq e=>bQ e|.iU es=>gb es
 |.enum a=>bQ a|.rev a=>bQ a
end
noncomputable def kf(a:E)(l:List Nat):Bool:=match a with
 |.v i=>!l.contains i
 |_=>l.isEmpty
noncomputable def itv:It->List Nat
 |.seq (.v i)=>[i]
 |.enum (.v i)=>[i]
 |.rev (.v i)=>[i]
 |_=>[]
abbrev aL:=Nat->List Sl->Option (V×List (List V))
noncomputable def intOf:V->Option Int
 |.int i=>some i
 |_=>none
noncomputable def jg(k:Bool)(fr:Fr)(i:Nat):Option V:=match fr[i]? with
 |some (some (.val v))=>some v
 |some (some (.own l))=>if k then some (.lst l)else none
 |some (some (.bor l))=>if k then some (.lst l)else none
 |some (some (.ro l))=>if k then some (.lst l)else none
 |_=>none
noncomputable def Bk(k:Bool)(fr:Fr)(i:Nat):Option V:=match fr[i]? with
 |some (some (.ro l))=>some (.lst l)
 |_=>jg k fr i
noncomputable def src(k:Bool)(fr:Fr)(e:E)(r:R V):R V:=match e with
 |.v i=>R.of (Bk k fr i) fr
 |_=>r
noncomputable def gG(fr:Fr):E->Option Nat
 |.v i=>if (lent fr i).isSome then some i else none
 |_=>none
noncomputable def args(fr:Fr):List (Nat ⊕ V)->Option (List Sl)
 |[]=>some []
 |.inl i :: r=>(lent fr i).bind λs=>(args fr r).map λl=>s :: l
 |.inr v :: r=>(args fr r).map λl=>.val v :: l
noncomputable def bK:List (Nat ⊕ V)->List Nat
 |[]=>[]
 |.inl i :: r=>i :: bK r
 |.inr _ :: r=>bK r
noncomputable def cS(P:aL)(f:Nat)(as:List (Nat ⊕ V))(fr:Fr):R V:=
 if (bK as).Nodup then match args fr as with
  |some sl=>match P f sl with
   |some (v,outs)=>R.of ((back (bK as) outs fr).map λaf=>(v,af)) fr |>.bind λp _=>.ok p.1 p.2
   |none=>.bad
  |none=>.bad
 else .bad
noncomputable def Bm(x y:V):Option V:=match x,y with
 |.lst a,.lst b=>eN (a++b)
 |_,_=>none
mutual
noncomputable def ev(P:aL):Bool->E->Fr->R V
 |_,.c d,fr=>R.of (ofD d) fr
 |k,.v i,fr=>R.of (jg k fr i) fr
 |_,.tup es,fr=>(bU P false es fr).bind λds af=>R.of (gD ds) af
 |_,.lst es,fr=>(bU P false es fr).bind λds af=>R.of (eN ds) af
 |_,.bin o a b,fr=>(ev P (kf a (bQ b)) a fr).bind λx af=>(ev P true b af).bind λy ao=>R.of (bD o x y) ao
 |_,.cmp o a b,fr=>(ev P (kf a (bQ b)) a fr).bind λx af=>(ev P true b af).bind λy ao=>R.of ((cop o x y).map .bl) ao
 |_,.jT kvs,fr=>if kvs=[]then .bad else .ok (.dw kvs) fr
 |_,.ku a b,fr=>(ev P (kf a (bQ b)) a fr).bind λx af=>(ev P true b af).bind λy ao=>R.of (Bg x y) ao
 |_,.nt a,fr=>(ev P true a fr).bind λx af=>match x with
   |.bl b=>.ok (.bl (!b)) af
   |_=>.bad
 |_,.neg a,fr=>(ev P true a fr).bind λx af=>match x with
   |.int i=>.ok (.int (-i)) af
   |_=>.bad
 |k,.an a b,fr=>(ev P true a fr).bind λx af=>match x with
   |.bl true=>ev P k b af
   |.bl false=>.ok (.bl false) af
   |_=>.bad
 |k,.orr a b,fr=>(ev P true a fr).bind λx af=>match x with
   |.bl true=>.ok (.bl true) af
   |.bl false=>ev P k b af
   |_=>.bad
 |k,.iX t a b,fr=>(aH P t fr).bind λc af=>if c then ev P k a af else ev P k b af
 |_,.ix a b,fr=>(ev P (kf a (bQ b)) a fr).bind λx af=>(ev P true b af).bind λy ao=>R.of (cY x y) ao
 |_,.sl a lo hi,fr=>(ev P (kf a (lK lo++lK hi)) a fr).bind λx af=>(gc P lo af).bind λl ao=>(gc P hi ao).bind λu bR=>R.of (iZ x l u) bR
 |_,.jS a,fr=>(ev P true a fr).bind λx af=>R.of (tM x) af
 |_,.fh a b,fr=>(ev P (kf a (bQ b)) a fr).bind λx af=>(ev P true b af).bind λy ao=>R.of (Bm x y) ao
 |_,.cl f es,fr=>(er P es fr).bind λas af=>cS P f as af
 |_,.bi b es,fr=>(bU P true es fr).bind λds af=>R.of (dz b ds) af
 |_,.me m o es,fr=>if jf m then match gG fr o with
   |some i=>(bU P (zA m) es fr).bind λds af=>match af[i]? with
    |some (some (.own l))=>match kC m l ds with
     |some (v,l')=>.ok v (af.set i (some (.own l')))
     |none=>.bad
    |some (some (.bor l))=>match kC m l ds with
     |some (v,l')=>.ok v (af.set i (some (.bor l')))
     |none=>.bad
    |_=>.bad
   |none=>.bad
  else (ev P (kf o (gb es)) o fr).bind λx af=>(bU P true es af).bind λds ao=>R.of (fq m x ds) ao
 |_,.comp elt t it cond,fr=>(cy P true it fr).bind λs af=>if undef t af then
   R.of ((cK (λd=>match bJ t d (rA af)with
    |none=>none
    |some ao=>match ja P cond ao with
     |.ok c _=>if c then (match ev P false elt ao with|.ok x _=>some (some x)|.bad=>none)else some none
     |.bad=>none) s).bind eN) af else .bad
 |_,.gU it,fr=>(cy P true it fr).bind λs af=>R.of (eN s) af
 |_,.gY kvs a,fr=>(ev P true a fr).bind λx af=>R.of (fz x kvs) af
 |_,.gy a,fr=>(ev P true a fr).bind λx af=>R.of (toT x) af
termination_by _ e=>(sizeOf e,0)
noncomputable def bU(P:aL):Bool->Es->Fr->R (List V)
 |_,.nil,fr=>.ok [] fr
 |k,.cons e es,fr=>(ev P (k&&kf e (gb es)) e fr).bind λd af=>(bU P k es af).bind λds ao=>.ok (d :: ds) ao
termination_by _ e=>(sizeOf e,0)
noncomputable def er(P:aL):Es->Fr->R (List (Nat ⊕ V))
 |.nil,fr=>.ok [] fr
 |.cons e es,fr=>match gG fr e with
   |some i=>(er P es fr).bind λr af=>.ok (.inl i :: r) af
   |none=>(ev P false e fr).bind λd af=>(er P es af).bind λr ao=>.ok (.inr d :: r) ao
termination_by e=>(sizeOf e,0)
noncomputable def gc(P:aL):Eo->Fr->R (Option Int)
 |.no,fr=>.ok none fr
 |.yes e,fr=>(ev P true e fr).bind λd af=>R.of ((intOf d).map some) af
termination_by e=>(sizeOf e,0)
noncomputable def ja(P:aL):Eo->Fr->R Bool
 |.no,fr=>.ok true fr
 |.yes e,fr=>aH P e fr
termination_by e=>(sizeOf e,0)
noncomputable def aH(P:aL):E->Fr->R Bool
 |.an a b,fr=>(aH P a fr).bind λk af=>if k then aH P b af else .ok false af
 |.orr a b,fr=>(aH P a fr).bind λk af=>if k then .ok true af else aH P b af
 |.nt a,fr=>(aH P a fr).bind λk af=>.ok (!k) af
 |e,fr=>(ev P true e fr).bind λx af=>.ok (truthy x) af
termination_by e=>(sizeOf e,1)
noncomputable def cy(P:aL):Bool->It->Fr->R (List V)
 |k,.seq e,fr=>(src k fr e (ev P k e fr)).bind λx af=>R.of (fN x) af
 |_,.iU es,fr=>(bU P true es fr).bind λds af=>R.of (fO ds) af
 |k,.enum a,fr=>(src k fr a (ev P k a fr)).bind λx af=>R.of ((pZ x).map λs=>cD 0 s) af
 |_,.rev a,fr=>(ev P true a fr).bind λx af=>R.of ((Bj x).map λs=>s.reverse) af
termination_by _ e=>(sizeOf e,0)
end
noncomputable def isNew:E->Bool
 |.lst _=>true
 |.gU _=>true
 |.fh _ _=>true
 |_=>false
noncomputable def Bo(k:Nat):V->Option V
 |.int c=>if 0<=c/\c<k then some (.tup [.str [114,101,102,117,115,101,100],.int c])else none
 |_=>none
mutual
noncomputable def ex(P:aL)(w:Nat):S->Fr->R Fl
 |.set i e,fr=>(ev P false e fr).bind λx af=>if isNew e then (match x with
   |.lst l=>(R.of (put af i (.own l)) af).bind λao _=>.ok .nx ao
   |_=>.bad)
  else (R.of (put af i (.val x)) af).bind λao _=>.ok .nx ao
 |.iA l e,fr=>(ev P false e fr).bind λx af=>(R.of (bJ (.many l) x af) af).bind λao _=>.ok .nx ao
 |.exp e,fr=>(ev P true e fr).bind λ_ af=>.ok .nx af
 |.ret e,fr=>(ev P false e (gj fr)).bind λx af=>.ok (.ret x) af
 |.iff t a b,fr=>(aH P t fr).bind λk af=>if k then exs P w a af else exs P w b af
 |.for t it b,fr=>(cy P false it (rB (itv it) fr)).bind λs af=>forL (λd ao=>match bJ t d ao with
   |some bR=>exs P w b bR
   |none=>.bad) s af
 |.jU t b,fr=>di (λao=>aH P t ao) (λao=>exs P w b ao) w fr
 |.eU _,_=>.bad
 |.tr f k es,fr=>(er P es fr).bind λas af=>if (bK as).isEmpty then (match cS P f as af with
   |.ok v ao=>.ok (.ret v) ao
   |.bad=>(cS P (f+Ev.xo) as af).bind λc ao=>R.of ((Bo k c).map .ret) ao)
  else .bad
noncomputable def exs(P:aL)(w:Nat):Ss->Fr->R Fl
 |.nil,fr=>.ok .nx fr
 |.cons s ss,fr=>(ex P w s fr).bind λp af=>match p with
   |.nx=>exs P w ss af
   |p=>.ok p af
end
noncomputable def dM(fn:Fn)(ds:List Sl):Fr:=ds.map some++List.replicate (fn.ns - fn.np) none
noncomputable def outs(np:Nat)(fr:Fr):List (List V):=(fr.take np).filterMap λo=>o.bind Sl.out
noncomputable def Dq(_:Fn)(_:List Sl):Option (V×List (List V)):=none
abbrev cA:=Nat->List Sl->Option Nat
noncomputable def o9(X:cA)(f:Nat)(as:List (Nat ⊕ V))(fr:Fr):Option Nat:=if (bK as).Nodup then (args fr as).bind (X f)else none
mutual
noncomputable def xe(P:aL)(X:cA):E->Fr->Option Nat
 |.cl f es,fr=>match er P es fr with
  |.ok as af=>o9 X f as af
  |.bad=>wR P X es fr
 |.ix a _,fr=>xe P X a fr
 |.me m o es,fr=>if jf m then match gG fr o with
   |some _=>zB P X (zA m) es fr
   |none=>none
  else none
 |_,_=>none
noncomputable def wR(P:aL)(X:cA):Es->Fr->Option Nat
 |.nil,_=>none
 |.cons e es,fr=>match gG fr e with
  |some _=>wR P X es fr
  |none=>match ev P false e fr with
   |.ok _ af=>wR P X es af
   |.bad=>xe P X e fr
noncomputable def zB(P:aL)(X:cA)(k:Bool):Es->Fr->Option Nat
 |.nil,_=>none
 |.cons e es,fr=>match ev P (k&&kf e (gb es)) e fr with
  |.ok _ af=>zB P X k es af
  |.bad=>xe P X e fr
end
noncomputable def fP(f:V->Fr->R Fl)(g:V->Fr->Option Nat):List V->Fr->Option Nat
 |[],_=>none
 |d :: ds,fr=>match f d fr with
   |.ok .nx af=>fP f g ds af
   |.ok .ct af=>fP f g ds af
   |.ok _ _=>none
   |.bad=>g d fr
noncomputable def gz(t:Fr->R Bool)(f:Fr->R Fl)(g:Fr->Option Nat):Nat->Fr->Option Nat
 |0,_=>none
 |n+1,fr=>match t fr with
  |.ok true af=>match f af with
   |.ok .nx ao=>gz t f g n ao
   |.ok .ct ao=>gz t f g n ao
   |.ok _ _=>none
   |.bad=>g af
  |_=>none
mutual
noncomputable def xs(P:aL)(X:cA)(w:Nat):S->Fr->Option Nat
 |.eU c,_=>some c
 |.set _ e,fr=>xe P X e fr
 |.exp e,fr=>xe P X e fr
 |.ret e,fr=>xe P X e (gj fr)
 |.iff t a b,fr=>match aH P t fr with
  |.ok k af=>if k then xss P X w a af else xss P X w b af
  |.bad=>xe P X t fr
 |.for t it b,fr=>match cy P false it (rB (itv it) fr)with
  |.ok s af=>fP (λd ao=>match bJ t d ao with|some bR=>exs P w b bR|none=>.bad) (λd ao=>match bJ t d ao with|some bR=>xss P X w b bR|none=>none) s af
  |.bad=>none
 |.jU t b,fr=>gz (λao=>aH P t ao) (λao=>exs P w b ao) (λao=>xss P X w b ao) w fr
 |_,_=>none
noncomputable def xss(P:aL)(X:cA)(w:Nat):Ss->Fr->Option Nat
 |.nil,_=>none
 |.cons s ss,fr=>match ex P w s fr with
  |.ok .nx af=>xss P X w ss af
  |.ok _ _=>none
  |.bad=>xs P X w s fr
end
noncomputable def Sl.gG:Sl->Bool
 |.val _=>true
 |_=>false
noncomputable def ni(X:cA)(f:Nat)(ds:List Sl):Option (V×List (List V)):=if Ev.xo<=f/\ds.all Sl.gG=true then (X (f - Ev.xo) ds).map λ(c:Nat)=>((.int (c:Int),[]):V×List (List V))else none
noncomputable def runs(F:List Fn)(w:Nat):Nat->aL×cA
 |0=>(λ_ _=>none,λ_ _=>none)
 |n+1=>
  let X:cA:=λf ds=>match F[f]? with
   |some fn=>if ds.length=fn.np then xss (runs F w n).1 (runs F w n).2 w fn.body (dM fn ds)else none
   |none=>none
  (λf ds=>match F[f]? with
   |some fn=>if ds.length=fn.np then match exs ((runs F w n).1) w fn.body (dM fn ds)with
     |.ok (.ret v) fr=>some (v,outs fn.np fr)
     |.ok .nx fr=>some (.aU,outs fn.np fr)
     |_=>Dq fn ds
    else none
   |none=>ni X f ds,X)
noncomputable def run(F:List Fn)(w n:Nat):aL:=(runs F w n).1
noncomputable def cj(F:List Fn)(w n:Nat):cA:=(runs F w n).2
def gf(F:List Fn)(w n f:Nat)(ds:List Sl):run F w (n+1) f ds=match F[f]? with
   |some fn=>if ds.length=fn.np then match exs (run F w n) w fn.body (dM fn ds)with
     |.ok (.ret v) fr=>some (v,outs fn.np fr)
     |.ok .nx fr=>some (.aU,outs fn.np fr)
     |_=>Dq fn ds
    else none
   |none=>ni (cj F w (n+1)) f ds:=nd rfl
def jb(F:List Fn)(w n f:Nat)(ds:List Sl):cj F w (n+1) f ds=match F[f]? with
   |some fn=>if ds.length=fn.np then xss (run F w n) (cj F w n) w fn.body (dM fn ds)else none
   |none=>none:=nd rfl
end Pv
namespace Pv
open Ev (D O Hh bw bq TY BI ME T E Es Eo It S Ss Fn big deep b2i rep bT cL bE aP cut bZ cJ slots bx)
section
variable(h:Hh)(S:Nat->Prop)
mutual
noncomputable def Rep:V->D->Prop
 |.aU,d=>d=.aU
 |.bl b,d=>d=.bl b
 |.int i,d=>d=.int i
 |.str s,d=>d=.str s
 |.tup l,d=>∃ds,d=.tup ds/\au l ds
 |.lst l,d=>∃n ds,d=.ref n/\S n/\h[n]?=some (.lst ds)/\au l ds
 |.bY l,d=>∃n ds,d=.ref n/\S n/\h[n]?=some (.bY ds)/\au l ds
 |.dw kvs,d=>∃n,d=.ref n/\S n/\h[n]?=some (.dw kvs)
noncomputable def au:List V->List D->Prop
 |[],ds=>ds=[]
 |v :: vs,ds=>∃d es,ds=d :: es/\Rep v d/\au vs es
end
noncomputable def br:V->D->Prop
 |.lst l,d=>∃n ds,d=.ref n/\h[n]?=some (.lst ds)/\au h S l ds
 |v,d=>Rep h S v d
noncomputable def gk:List V->List D->Prop
 |[],ds=>ds=[]
 |v :: vs,ds=>∃d es,ds=d :: es/\br h S v d/\gk vs es
end
abbrev U:Nat->Prop:=λ_=>True
section
variable{h h':Hh}{S S':Nat->Prop}
mutual
theorem Rep.mono(f:∀m,S m->h'[m]?=h[m]?)(g:∀m,S m->S' m):∀{v:V}{d:D},Rep h S v d->Rep h' S' v d
 |.aU,_,q=>q
 |.bl _,_,q=>q
 |.int _,_,q=>q
 |.str _,_,q=>q
 |.tup l,_,⟨ds,a,b⟩=>⟨ds,a,au.mono f g b⟩
 |.lst l,_,⟨n,ds,a,b,c,e⟩=>⟨n,ds,a,g n b,by rw[f n b];exact c,au.mono f g e⟩
 |.bY l,_,⟨n,ds,a,b,c,e⟩=>⟨n,ds,a,g n b,by rw[f n b];exact c,au.mono f g e⟩
 |.dw kvs,_,⟨n,a,b,c⟩=>⟨n,a,g n b,by rw[f n b];exact c⟩
theorem au.mono(f:∀m,S m->h'[m]?=h[m]?)(g:∀m,S m->S' m):∀{v:List V}{d:List D},au h S v d->au h' S' v d
 |[],_,q=>q
 |_ :: _,_,⟨d,es,a,b,c⟩=>⟨d,es,a,Rep.mono f g b,au.mono f g c⟩
end
def au.nil:au h S [] []:=by simp[au]
def au.cons{v:V}{d:D}{vs:List V}{ds:List D}(a:Rep h S v d)(b:au h S vs ds):au h S (v :: vs) (d :: ds):=by simp only[au];exact⟨d,ds,rfl,a,b⟩
def Rep.top{v:V}{d:D}(q:Rep h S v d):br h S v d:=by
 cases v<;>first|exact q | (obtain⟨n,ds,a,b,c,e⟩:=q;exact⟨n,ds,a,c,e⟩)
def br.u{v:V}{d:D}(q:br h S v d):Rep h U v d:=by
 cases v with
 |lst l=>obtain⟨n,ds,a,b,c⟩:=q;exact⟨n,ds,a,trivial,b,c.mono (λ_ _=>rfl) λ_ _=>trivial⟩
 |_=>exact Rep.mono (S:=S) (λ_ _=>rfl) (λ_ _=>trivial) q
def au.u{v:List V}{d:List D}(q:au h S v d):au h U v d:=q.mono (λ_ _=>rfl) λ_ _=>trivial
theorem br.mono{v:V}{d:D}(f:∀m,m<h.length->h'[m]?=h[m]?)(k:∀m,S m->m<h.length)(g:∀m,S m->S' m)(q:br h S v d):br h' S' v d:=by
 cases v with
 |lst l=>
  obtain⟨n,ds,a,b,c⟩:=q;exact⟨n,ds,a,by rw[f n (List.getElem?_eq_some_iff.mp b).1];exact b,c.mono (λm z=>f m (k m z)) g⟩
 |_=>exact Rep.mono (λm z=>f m (k m z)) g q
theorem au.length:∀{v:List V}{d:List D},au h S v d->v.length=d.length
 |[],_,q=>by simp only[au]at q;subst q;rfl
 |_ :: _,_,q=>by simp only[au]at q;obtain⟨d,es,rfl,_,c⟩:=q;simp[c.length]
theorem au.get:∀{v:List V}{d:List D}{i:Nat}{x:V},au h S v d->v[i]?=some x->∃y,d[i]?=some y/\Rep h S x y
 |[],_,_,_,_,e=>by simp at e
 |_ :: _,_,0,_,q,e=>by
  simp only[au]at q;obtain⟨d,es,rfl,b,_⟩:=q;simp at e;subst e;exact⟨d,by simp,b⟩
 |_ :: _,_,i+1,_,q,e=>by
  simp only[au]at q;obtain⟨d,es,rfl,_,c⟩:=q;obtain⟨y,a,b⟩:=c.get (i:=i) (by simpa using e);exact⟨y,by simpa using a,b⟩
theorem au.append:∀{v w:List V}{d e:List D},au h S v d->au h S w e->au h S (v++w) (d++e)
 |[],_,_,_,a,b=>by simp only[au]at a;subst a;simpa using b
 |_ :: _,_,_,_,a,b=>by
  simp only[au]at a;obtain⟨d,es,rfl,x,y⟩:=a;exact .cons x (y.append b)
theorem au.take:∀{v:List V}{d:List D}(n:Nat),au h S v d->au h S (v.take n) (d.take n)
 |_,_,0,_=>by simp[au]
 |[],_,_+1,a=>by simp only[au]at a;subst a;simp[au]
 |_ :: _,_,n+1,a=>by
  simp only[au]at a;obtain⟨d,es,rfl,x,y⟩:=a;simp only[aa0];exact .cons x (y.take n)
theorem au.drop:∀{v:List V}{d:List D}(n:Nat),au h S v d->au h S (v.drop n) (d.drop n)
 |_,_,0,a=>by simpa using a
 |[],_,_+1,a=>by simp only[au]at a;subst a;simp[au]
 |_ :: _,_,n+1,a=>by
  simp only[au]at a;obtain⟨d,es,rfl,x,y⟩:=a;simp only[ab6];exact y.drop n
theorem au.set:∀{v:List V}{d:List D}(j:Nat) {x:V}{y:D},au h S v d->Rep h S x y->au h S (v.set j x) (d.set j y)
 |[],_,_,_,_,a,_=>by simp only[au]at a;subst a;simp[au]
 |_ :: _,_,0,_,_,a,b=>by
  simp only[au]at a;obtain⟨d,es,rfl,x,y⟩:=a;exact .cons b y
 |_ :: _,_,j+1,_,_,a,b=>by
  simp only[au]at a;obtain⟨d,es,rfl,x,y⟩:=a;exact .cons x (y.set j b)
theorem au.dropLast:∀{v:List V}{d:List D},au h S v d->au h S v.dropLast d.dropLast:=λ{v d} a=>by
 rw[abn,abn,a.length];exact a.take _
theorem au.reverse:∀{v:List V}{d:List D},au h S v d->au h S v.reverse d.reverse
 |[],_,a=>by simp only[au]at a;subst a;simp[au]
 |_ :: _,_,a=>by
  simp only[au]at a;obtain⟨d,es,rfl,x,y⟩:=a;simp only[aay];exact y.reverse.append (.cons x .nil)
theorem au.rep{v:List V}{d:List D}(a:au h S v d):∀k:Nat,au h S (Ev.rep k v) (Ev.rep k d)
 |0=>by simp[Ev.rep,au]
 |k+1=>by
  have z:=au.rep a k;simp only[Ev.rep,xZ,aaW]at z ⊢;exact a.append z
theorem au.cut{v:List V}{d:List D}(a:au h S v d)(lo hi:Option Int):au h S (Ev.cut v lo hi) (Ev.cut d lo hi):=by
 unfold Ev.cut;rw[a.length];exact(a.drop _).take _
theorem au.map{α:Type}{f:α->V}{g:α->D}(q:∀a,Rep h S (f a) (g a)):∀l:List α,au h S (l.map f) (l.map g)
 |[]=>.nil
 |_ :: l=>.cons (q _) (au.map q l)
mutual
theorem Rep.uniq:∀{v w:V}{d:D},Rep h U v d->Rep h U w d->v=w
 |.aU,w,_,a,b=>by simp only[Rep]at a;subst a;cases w<;>simp[Rep]at b<;>rfl
 |.bl _,w,_,a,b=>by simp only[Rep]at a;subst a;cases w<;>simp[Rep]at b<;>rw[b]
 |.int _,w,_,a,b=>by simp only[Rep]at a;subst a;cases w<;>simp[Rep]at b<;>rw[b]
 |.str _,w,_,a,b=>by simp only[Rep]at a;subst a;cases w<;>simp[Rep]at b<;>rw[b]
 |.tup l,w,_,a,b=>by
  simp only[Rep]at a;obtain⟨ds,rfl,a⟩:=a;cases w<;>simp[Rep]at b
  rw[au.uniq a b]
 |.lst l,w,_,a,b=>by
  simp only[Rep]at a;obtain⟨n,ds,rfl,_,a1,a⟩:=a;cases w<;>simp[Rep]at b
  .obtain⟨ds',b1,b⟩:=b;rw[a1]at b1;cases b1;rw[au.uniq a b]
  .obtain⟨ds',b1,b⟩:=b;rw[a1]at b1;cases b1
  .rw[a1]at b;cases b
 |.bY l,w,_,a,b=>by
  simp only[Rep]at a;obtain⟨n,ds,rfl,_,a1,a⟩:=a;cases w<;>simp[Rep]at b
  .obtain⟨ds',b1,b⟩:=b;rw[a1]at b1;cases b1
  .obtain⟨ds',b1,b⟩:=b;rw[a1]at b1;cases b1;rw[au.uniq a b]
  .rw[a1]at b;cases b
 |.dw kvs,w,_,a,b=>by
  simp only[Rep]at a;obtain⟨n,rfl,_,a1⟩:=a;cases w<;>simp[Rep]at b
  .obtain⟨ds',b1,b⟩:=b;rw[a1]at b1;cases b1
  .obtain⟨ds',b1,b⟩:=b;rw[a1]at b1;cases b1
  .rw[a1]at b;cases b;rfl
theorem au.uniq:∀{v w:List V}{d:List D},au h U v d->au h U w d->v=w
 |[],w,_,a,b=>by simp only[au]at a;subst a;cases w<;>simp[au]at b;rfl
 |x :: xs,w,_,a,b=>by
  simp only[au]at a;obtain⟨d,es,rfl,a1,a2⟩:=a;cases w<;>simp only[au]at b
  .cases b
  obtain⟨d',es',e,b1,b2⟩:=b;cases e;rw[Rep.uniq a1 b1,au.uniq a2 b2]
end
theorem wU{n:Nat}(f:∀v b,eE n v v=some b->b=true):∀l b,b9 (eE n) l l=some b->b=true
 |[],b,e=>by simp[b9]at e;exact e
 |x :: xs,b,e=>by
  simp only[b9,V4]at e;obtain⟨c,e1,c2,e2,e⟩:=e;rw[f x c e1,wU f xs c2 e2]at e;simpa using e.symm
theorem wV:∀n v b,eE n v v=some b->b=true
 |0,_,_,e=>by cases e
 |n+1,v,b,e=>by
  cases v<;>first|exact wU (wV n) _ _ e | (cases e<;>first|rfl|exact beq_self_eq_true _)
theorem wW{n:Nat}(f:∀{v w:V}{d e:D}{b},eE n v w=some b->Rep h U v d->Rep h U w e->Ev.iY h n d e=some b):∀{l m:List V}{ds es:List D}{b},b9 (eE n) l m=some b->au h U l ds->au h U m es->Ev.b9 (Ev.iY h n) ds es=some b
 |[],[],_,_,b,e,p,q=>by simp only[au]at p q;subst p q;simpa[b9,Ev.b9]using e
 |[],_ :: _,_,_,b,e,p,q=>by simp only[au]at p q;subst p;obtain⟨_,_,rfl,_⟩:=q;simpa[b9,Ev.b9]using e
 |_ :: _,[],_,_,b,e,p,q=>by simp only[au]at p q;subst q;obtain⟨_,_,rfl,_⟩:=p;simpa[b9,Ev.b9]using e
 |x :: xs,y :: ys,_,_,b,e,p,q=>by
  simp only[au]at p q;obtain⟨d,ds,rfl,p1,p2⟩:=p;obtain⟨d',ds',rfl,q1,q2⟩:=q;simp only[b9,V4]at e;obtain⟨c,e1,c2,e2,e⟩:=e;simp[Ev.b9,f e1 p1 q1,wW f e2 p2 q2];simpa using e
def jh{n:Nat}{ds:List D}(q:h[n]?=some (.lst ds)):bx h n=some ds:=by simp[bx,q]
def jM{n:Nat}{ds:List D}(q:h[n]?=some (.bY ds)):bx h n=some ds:=by simp[bx,q]
theorem lY:∀(n:Nat) {v w:V}{d e:D}{b},eE n v w=some b->Rep h U v d->Rep h U w e->Ev.iY h n d e=some b
  |0,_,_,_,_,_,e,_,_=>by cases e
  |n+1,v,w,d,e,b,x,p,q=>by
    by_cases hr:∃m,d=.ref m/\e=.ref m
    . obtain⟨m,rfl,rfl⟩:=hr;have hvw:=p.uniq q;subst hvw;have hb:=wV _ _ _ x;subst hb;cases v<;>simp[Rep]at p
      . obtain⟨ds,p1,p2⟩:=p;show Ev.kB _ _ _ _=_;rw[Ev.kB,mD rfl,jh p1];rfl
      . obtain⟨ds,p1,p2⟩:=p;show Ev.kB _ _ _ _=_;rw[Ev.kB,mD rfl,jM p1];rfl
      . cases x
    . cases v<;>cases w<;>simp only[Rep]at p q <;>
      first
      | (subst p;subst q;exact x)
      | (obtain⟨ds,rfl,p⟩:=p;subst q;exact x)
      | (obtain⟨ds,rfl,q⟩:=q;subst p;exact x)
      | (obtain⟨ds,rfl,p⟩:=p;obtain⟨es,rfl,q⟩:=q;exact wW (λa b c=>lY n a b c) x p q)
      | (cases x;done)
      | (obtain⟨m,ds,rfl,_,p1,p⟩:=p;obtain⟨k,es,rfl,_,q1,q⟩:=q
         have hne:m≠k:=λz=>hr ⟨m,rfl,by rw[z]⟩;show Ev.kB _ _ _ _=_;rw[Ev.kB,Yv hne,p1,q1];exact wW (λa b c=>lY n a b c) x p q)
      | (cases x;obtain⟨m,ds,rfl,_,p1,p⟩:=p;subst q;exact aab (Option.map λ_=>false) (jh p1))
      | (cases x;obtain⟨m,ds,rfl,_,p1,p⟩:=p;subst q;exact aab (Option.map λ_=>false) (jM p1))
      | (cases x;obtain⟨m,ds,rfl,_,p1,p⟩:=p;obtain⟨es,rfl,q⟩:=q;exact aab (Option.map λ_=>false) (jh p1))
      | (cases x;obtain⟨m,ds,rfl,_,p1,p⟩:=p;obtain⟨es,rfl,q⟩:=q;exact aab (Option.map λ_=>false) (jM p1))
      | (cases x;obtain⟨m,ds,rfl,_,q1,q⟩:=q;subst p;exact aab (Option.map λ_=>false) (jh q1))
      | (cases x;obtain⟨m,ds,rfl,_,q1,q⟩:=q;subst p;exact aab (Option.map λ_=>false) (jM q1))
      | (cases x;obtain⟨m,ds,rfl,_,q1,q⟩:=q;obtain⟨es,rfl,p⟩:=p;exact aab (Option.map λ_=>false) (jh q1))
      | (cases x;obtain⟨m,ds,rfl,_,q1,q⟩:=q;obtain⟨es,rfl,p⟩:=p;exact aab (Option.map λ_=>false) (jM q1))
end
structure Al(h:Hh)(S:Nat->Prop)(h':Hh)(S':Nat->Prop):Prop where
 len:h.length<=h'.length
 keep:∀m,m<h.length->h'[m]?=h[m]?
 sub:∀m,S m->S' m
 new:∀m,S' m->S m\/(h.length<=m/\m<h'.length)
section
variable{h h':Hh}{S S':Nat->Prop}
def Al.refl:Al h S h S:=⟨Ad _,λ_ _=>rfl,λ_ q=>q,λ_ q=>.inl q⟩
def Al.snoc(o:O):Al h S (h++[o]) (λm=>S m\/m=h.length) where
 len:=by simp
 keep:=λm q=>by rw[UK q]
 sub:=λ_ q=>.inl q
 new:=λm q=>by
  rcases q with q|q
  .exact .inl q
  .subst q;exact .inr ⟨Ad _,by simp⟩
def kD{l:List V}{v:V}{ds:List D}(w:∀m,S m->m<h.length)(e:eN l=some v)(q:au h S l ds):∃r h' S',Ev.alloc ds h=.ok r h'/\Rep h' S' v r/\Al h S h' S':=by
 unfold eN at e;split at e
 .rename_i z;cases e;refine⟨.ref h.length,h++[.lst ds],λm=>S m\/m=h.length,by unfold Ev.alloc;rw[mD (by rw[<-q.length];exact z)],?_,Al.snoc _⟩;simp only[Rep];refine⟨h.length,ds,rfl,.inr rfl,by simp,q.mono (λm z=>?_) λ_ z=>.inl z⟩;rw[UK (w m z)]
 .cases e
def rC{v:V}{l:List V}{d:D}(e:pZ v=some l)(q:br h S v d):∃n ds,d=.ref n/\bx h n=some ds/\au h S l ds:=by
 cases v<;>simp[pZ]at e
 .subst e;simp only[br]at q;obtain⟨n,ds,rfl,a,b⟩:=q;exact⟨n,ds,rfl,jh a,b⟩
 .subst e;simp only[br,Rep]at q;obtain⟨n,ds,rfl,_,a,b⟩:=q;exact⟨n,ds,rfl,jM a,b⟩
mutual
theorem nW:∀{d:D}{v:V},ofD d=some v->Rep h S v d
 |.aU,_,e=>by simp[ofD]at e;subst e;simp[Rep]
 |.bl _,_,e=>by simp[ofD]at e;subst e;simp[Rep]
 |.int _,_,e=>by simp[ofD]at e;subst e;simp[Rep]
 |.str _,_,e=>by simp[ofD]at e;subst e;simp[Rep]
 |.ref _,_,e=>by simp[ofD]at e
 |.tup ds,_,e=>by
  simp[ofD]at e;obtain⟨vs,e,rfl⟩:=e;exact⟨ds,rfl,zC e⟩
theorem zC:∀{d:List D}{v:List V},wQ d=some v->au h S v d
 |[],_,e=>by simp[wQ]at e;subst e;exact .nil
 |d :: ds,_,e=>by
  simp only[wQ,V4,gV]at e;obtain⟨v,e1,vs,e2,rfl⟩:=e;exact .cons (nW e1) (zC e2)
end
def au.emp{l:List V}{ds:List D}(q:au h S l ds):ds.isEmpty=l.isEmpty:=by
 have:=q.length;cases l<;>cases ds<;>simp at this ⊢
def Dr{v:V}{d:D}(q:br h S v d):Ev.truthy h d=some (truthy v):=by
 cases v<;>simp only[br,Rep]at q
 .subst q;rfl
 .subst q;rfl
 .subst q;rfl
 .subst q;rfl
 .obtain⟨ds,rfl,q⟩:=q;simp only[Ev.truthy,truthy,q.emp]
 .obtain⟨n,ds,rfl,a,q⟩:=q;simp only[Ev.truthy,truthy,jh a,Option.map,q.emp];first|done|rw[a]
 .obtain⟨n,ds,rfl,_,a,q⟩:=q;simp only[Ev.truthy,truthy,jM a,Option.map,q.emp];first|done|rw[a]
 .obtain⟨n,rfl,_,a⟩:=q;simp only[Ev.truthy,truthy];rw[a]
def nn{α:Type}{v:α}{p:Prop}(z:none=some v):p:=Option.noConfusion rfl (heq_of_eq z)
def Ds{o:bw}{x y v:V}{d e:D}(w:∀m,S m->m<h.length)(z:bD o x y=some v)(p:br h S x d)(q:br h S y e):∃r h' S',Ev.bD o d e h=.ok r h'/\Rep h' S' v r/\Al h S h' S':=by
 cases o<;>cases x<;>first|exact nn z | (cases y<;>first|exact nn z|skip)
 all_goals (delta bD at z;dsimp only at z;simp only[br,Rep]at p q)
 .subst p q;cases z;exact⟨_,_,S,rfl,rfl,.refl⟩
 .subst p q;split at z
  .rename_i k;cases z;exact⟨_,_,S,by delta Ev.bD;dsimp only;rw[mD k],rfl,.refl⟩
  .cases z
 .obtain⟨ds,rfl,p⟩:=p;obtain⟨es,rfl,q⟩:=q;split at z
  .rename_i k;cases z;exact⟨_,_,S,by delta Ev.bD;dsimp only;rw[mD (by rw[<-p.length,<-q.length];exact k)],⟨_,rfl,p.append q⟩,.refl⟩
  .cases z
 .obtain⟨n,ds,rfl,a,p⟩:=p;obtain⟨m,es,rfl,b,q⟩:=q
  delta Ev.bD;dsimp only;simp only[a,b]
  exact kD w z (p.append q)
 .subst p q;cases z;exact⟨_,_,S,rfl,rfl,.refl⟩
 .subst p q;split at z
  .rename_i k;cases z;exact⟨_,_,S,by delta Ev.bD;dsimp only;rw[mD k],rfl,.refl⟩
  .cases z
 .subst p q;split at z
  .rename_i k;cases z;exact⟨_,_,S,by delta Ev.bD;dsimp only;rw[mD k],rfl,.refl⟩
  .cases z
 .obtain⟨ds,rfl,p⟩:=p;subst q;split at z
  .rename_i k;cases z;exact⟨_,_,S,by delta Ev.bD;dsimp only;rw[mD (by rw[<-p.length];exact k)],⟨_,rfl,p.rep _⟩,.refl⟩
  .cases z
 .obtain⟨n,ds,rfl,a,p⟩:=p;subst q;split at z
  .rename_i k
   delta Ev.bD;dsimp only;simp only[a]
   rw[mD (by rw[<-p.length];exact k)];exact kD w z (p.rep _)
  .cases z
 .subst p q;split at z
  .rename_i k;cases z;exact⟨_,_,S,by delta Ev.bD;dsimp only;rw[mD k],rfl,.refl⟩
  .cases z
 .subst p q;split at z
  .rename_i k;cases z;exact⟨_,_,S,by delta Ev.bD;dsimp only;rw[mD k],rfl,.refl⟩
  .cases z
def Ot{o:bq}{x y:V}{d e:D}{b:Bool}(z:cop o x y=some b)(p:Rep h U x d)(q:Rep h U y e):Ev.cop o d e h=some b:=by
 cases o
 case eq=>delta cop at z;dsimp only at z;delta Ev.cop;dsimp only;exact lY deep z p q
 case ne=>
  delta cop at z;dsimp only at z;simp only[gV]at z;obtain⟨c,z,rfl⟩:=z
  delta Ev.cop;dsimp only;simp only[lY deep z p q];rfl
 all_goals (
  cases x<;>first|exact nn z | (cases y<;>first|exact nn z|skip)
  simp only[Rep]at p q;subst p q;exact z)
def Bp{l:List V}{ds:List D}{i:Int}{v:V}(e:bE l i=some v)(q:au h S l ds):∃d,bE ds i=some d/\Rep h S v d:=by
 unfold bE at e ⊢;rw[q.length]at e;cases z:cL ds.length i with
 |none=>rw[z]at e;cases e
 |some j=>rw[z]at e;exact q.get e
def Ou{x y v:V}{d e:D}(z:cY x y=some v)(p:br h S x d)(q:br h S y e):∃r,Ev.cY d e h=some r/\Rep h S v r:=by
 cases x<;>cases y<;>simp only[cY,reduceCtorEq]at z<;>simp only[br,Rep]at p q
 .subst p q;simp only[gV]at z;obtain⟨c,z,rfl⟩:=z;exact⟨.str [c],by simp[Ev.cY,z],rfl⟩
 .obtain⟨ds,rfl,p⟩:=p;subst q;simpa[Ev.cY]using Bp z p
 .obtain⟨n,ds,rfl,a,p⟩:=p;subst q;simpa[Ev.cY,jh a]using Bp z p
 .obtain⟨n,ds,rfl,_,a,p⟩:=p;subst q;simpa[Ev.cY,jM a]using Bp z p
def Ov{x v:V}{d:D}{lo hi:Option Int}(w:∀m,S m->m<h.length)(z:iZ x lo hi=some v)(p:br h S x d):∃r h' S',Ev.iZ d lo hi h=.ok r h'/\Rep h' S' v r/\Al h S h' S':=by
 cases x<;>simp only[iZ,reduceCtorEq]at z<;>simp only[br,Rep]at p
 .subst p;cases z;exact⟨_,_,S,rfl,rfl,.refl⟩
 .obtain⟨ds,rfl,p⟩:=p;cases z;exact⟨_,_,S,rfl,⟨_,rfl,p.cut _ _⟩,.refl⟩
 .obtain⟨n,ds,rfl,a,p⟩:=p;simp only[Ev.iZ,jh a];exact kD w z (p.cut _ _)
 .obtain⟨n,ds,rfl,_,a,p⟩:=p;simp only[Ev.iZ,jM a];exact kD w z (p.cut _ _)
def KI{x v:V}{d:D}(z:tM x=some v)(p:br h S x d):∃r,Ev.AN d h=.ok r h/\Rep h S v r:=by
 cases x<;>simp only[tM,reduceCtorEq]at z<;>simp only[br,Rep]at p
 obtain⟨n,ds,rfl,a,p⟩:=p;unfold gD at z;split at z
 .rename_i k;cases z;refine⟨.tup ds.reverse,?_,⟨_,rfl,p.reverse⟩⟩;rw[acN]at k;simp only[Ev.AN,jh a];rw[mD (by rw[<-p.length];exact k)]
 .cases z
def Ow{x v:V}{d:D}(z:toT x=some v)(p:br h S x d):∃r,Ev.sU d h=.ok r h/\Rep h S v r:=by
 cases x<;>simp only[toT,reduceCtorEq]at z<;>simp only[br,Rep]at p
 .obtain⟨ds,rfl,p⟩:=p;cases z;exact⟨_,rfl,⟨_,rfl,p⟩⟩
 .obtain⟨n,ds,rfl,a,p⟩:=p;unfold gD at z;split at z
  .rename_i k;cases z;refine⟨.tup ds,?_,⟨_,rfl,p⟩⟩;simp only[Ev.sU,jh a];rw[mD (by rw[<-p.length];exact k)]
  .cases z
 .obtain⟨n,ds,rfl,_,a,p⟩:=p;unfold gD at z;split at z
  .rename_i k;cases z;refine⟨.tup ds,?_,⟨_,rfl,p⟩⟩;simp only[Ev.sU,jM a];rw[mD (by rw[<-p.length];exact k)]
  .cases z
def KJ{x:V}{l:List V}{d:D}(z:pZ x=some l)(p:br h S x d):∃s,Ev.AO h d=some s/\au h S l s.1/\(∀q∈s.2,d=.ref q.1/\bx h q.1=some q.2):=by
 obtain⟨n,ds,rfl,a,q⟩:=rC z p;exact⟨(ds,[(n,ds)]),by simp[Ev.AO,a],q,by simp[a]⟩
theorem FP:∀{l:List V}{ds:List D}{bs},boolsOf l=some bs->au h S l ds->Ev.boolsOf ds=some bs
 |[],_,_,e,q=>by simp only[au]at q;subst q;exact e
 |x :: xs,_,bs,e,q=>by
  cases x<;>simp only[boolsOf,reduceCtorEq,gV]at e
  obtain⟨r,e,rfl⟩:=e;simp only[au,Rep]at q;obtain⟨_,ds,rfl,rfl,q⟩:=q;simp[Ev.boolsOf,FP e q]
theorem zD:∀{l:List V}{ds:List D}{bs},intsOf l=some bs->au h S l ds->Ev.intsOf ds=some bs
 |[],_,_,e,q=>by simp only[au]at q;subst q;exact e
 |x :: xs,_,bs,e,q=>by
  cases x<;>simp only[intsOf,reduceCtorEq,gV]at e
  obtain⟨r,e,rfl⟩:=e;simp only[au,Rep]at q;obtain⟨_,ds,rfl,rfl,q⟩:=q;simp[Ev.intsOf,zD e q]
theorem zE:∀{l:List V}{ds:List D}{bs},strsOf l=some bs->au h S l ds->Ev.strsOf ds=some bs
 |[],_,_,e,q=>by simp only[au]at q;subst q;exact e
 |x :: xs,_,bs,e,q=>by
  cases x<;>simp only[strsOf,reduceCtorEq,gV]at e
  obtain⟨r,e,rfl⟩:=e;simp only[au,Rep]at q;obtain⟨_,ds,rfl,rfl,q⟩:=q;simp[Ev.strsOf,zE e q]
def gk.one{v:V}{ds:List D}(q:gk h S [v] ds):∃d,ds=[d]/\br h S v d:=by
 simp only[gk]at q;obtain⟨d,es,rfl,a,rfl⟩:=q;exact⟨d,rfl,a⟩
def Ox{b:BI}{xs:List V}{v:V}{ds:List D}(w:∀m,S m->m<h.length)(z:dz b xs=some v)(p:gk h S xs ds):∃r h' S',Ev.dz b ds h=.ok r h'/\Rep h' S' v r/\Al h S h' S':=by
 delta dz at z
 rcases xs with _|⟨x,_|⟨y,_|⟨u,xs⟩⟩⟩
 .cases b<;>exact nn z
 .obtain⟨d,rfl,p1⟩:=p.one;cases b
  case len=>
   cases x
   case str s=>
    dsimp only at z;simp only[br,Rep]at p1;subst p1;split at z
    .rename_i k;cases z;exact⟨_,_,S,by delta Ev.dz;dsimp only;rw[mD k],rfl,.refl⟩
    .cases z
   case tup l=>
    dsimp only at z;simp only[br,Rep]at p1;obtain⟨es,rfl,p2⟩:=p1;cases z;exact⟨_,_,S,rfl,by simp[Rep,p2.length],.refl⟩
   all_goals
    dsimp only at z;simp only[gV]at z;obtain⟨l,z,rfl⟩:=z;obtain⟨n,es,rfl,a,q⟩:=rC z p1;exact⟨.int es.length,h,S,by delta Ev.dz;dsimp only;simp[a],by simp[Rep,q.length],.refl⟩
  case sum=>
   dsimp only at z;simp only[gV,V4]at z;obtain⟨bs,⟨l,z,z2⟩,rfl⟩:=z;obtain⟨n,es,rfl,a,q⟩:=rC z p1;exact⟨_,_,S,by delta Ev.dz;dsimp only;simp only[a,Option.bind,zD z2 q];rfl,rfl,.refl⟩
  case min=>cases x<;>exact nn z
  case lE=>
   cases x
   case bl i=>
    dsimp only at z;simp only[br,Rep]at p1;subst p1;cases z;exact⟨_,_,S,rfl,rfl,.refl⟩
   all_goals exact nn z
 .cases b
  case min=>
   cases x
   case int i=>
    cases y
    case int j=>
     dsimp only at z;simp only[gk,br,Rep]at p;obtain⟨_,_,rfl,rfl,_,_,rfl,rfl,rfl⟩:=p;cases z;exact⟨_,_,S,rfl,rfl,.refl⟩
    all_goals exact nn z
   all_goals exact nn z
  case len=>cases x<;>exact nn z
  case lE=>cases x<;>exact nn z
  all_goals exact nn z
 .cases b
  case min=>cases x <;> (try cases y)<;>exact nn z
  case len=>cases x<;>exact nn z
  case lE=>cases x<;>exact nn z
  all_goals exact nn z
def Oz{m:ME}{o:V}{xs:List V}{v:V}{d:D}{ds:List D}(z:fq m o xs=some v)(hm:jf m=false)(po:br h S o d)(p:gk h S xs ds):Ev.qX m d h=true/\∃r,Ev.fq m d ds h=.ok r h/\Rep h S v r:=by
 unfold fq at z;split at z
 .obtain⟨d,rfl,p1⟩:=p.one;simp only[br,Rep]at po;subst po;simp only[V4]at z;obtain⟨ss,⟨l,z,z2⟩,z3⟩:=z;obtain⟨n,es,rfl,a,q⟩:=rC z p1;split at z3
  .rename_i k;cases z3;refine⟨rfl,_,?_,rfl⟩
   delta Ev.fq;dsimp only;simp only[a,Option.bind,zE z2 q]
   rw[mD k]
  .cases z3
 .cases z
def KL{x:V}{d:D}(f:vf x=true)(p:Rep h U x d):Rep [] U x d:=by
 cases x<;>simp only[vf,aap]at f<;>exact p
def FQ{x:V}{d:D}(p:Rep h U x d):∀{kvs:List (D×D)}{v:V},fz x kvs=some v->∃r,Ev.fz d kvs=some r/\Rep h S v r:=by
 intro kvs v z;unfold fz at z;split at z
 .rename_i f;have p':=KL f p;induction kvs with
  |nil=>cases z
  |cons kv r ih=>
   obtain⟨k,u⟩:=kv;simp only[Bh]at z;simp only[Ev.fz];split at z
   .rename_i y;simp only[V4]at y;obtain⟨k',y1,y2⟩:=y;rw[lY 1 y2 (nW y1) p'];exact⟨u,rfl,nW z⟩
   .rename_i y;simp only[V4]at y;obtain⟨k',y1,y2⟩:=y;rw[lY 1 y2 (nW y1) p'];exact ih z
   .cases z
 .cases z
def FT{x:V}{l:List V}{d:D}(z:fN x=some l)(p:br h S x d):∃s,Ev.fN h d=some s/\au h S l s.1/\(∀q∈s.2,d=.ref q.1/\bx h q.1=some q.2):=by
 cases x<;>simp only[fN,reduceCtorEq]at z<;>simp only[br,Rep]at p
 .subst p;cases z;exact⟨_,rfl,au.map (f:=λc=>V.str [c]) (g:=λc=>D.str [c]) (λ_=>by simp[Rep]) _,by simp⟩
 .obtain⟨ds,rfl,p⟩:=p;cases z;exact⟨_,rfl,p,by simp⟩
 .obtain⟨n,ds,rfl,a,p⟩:=p;cases z;exact⟨(ds,[(n,ds)]),by simp[Ev.fN,jh a],p,by simp[jh a]⟩
 .obtain⟨n,ds,rfl,_,a,p⟩:=p;cases z;exact⟨(ds,[(n,ds)]),by simp[Ev.fN,jM a],p,by simp[jM a]⟩
def wX(lo:Int)(n:Nat):au h S (range lo n) (Ev.range lo n):=au.map (f:=λ(i:Nat)=>V.int (lo+i)) (g:=λ(i:Nat)=>D.int (lo+i)) (λ_=>by simp[Rep]) _
def OA{xs l:List V}{ds:List D}(z:fO xs=some l)(p:gk h S xs ds):∃s,Ev.fO ds=some (s,[])/\au h S l s:=by
 unfold fO at z;split at z
 .obtain⟨d,rfl,p1⟩:=p.one;simp only[br,Rep]at p1;subst p1;split at z
  .rename_i k;cases z;exact⟨_,by simp only[Ev.fO];rw[mD k],wX _ _⟩
  .cases z
 .simp only[gk,br,Rep]at p;obtain⟨_,_,rfl,rfl,_,_,rfl,rfl,rfl⟩:=p;split at z
  .rename_i k;cases z;exact⟨_,by simp only[Ev.fO];rw[mD k],wX _ _⟩
  .cases z
 .cases z
theorem zF:∀{a:List V}{ds:List D}(k:Int),au h S a ds->au h S (cD k a) (Ev.cD k ds)
 |[],_,_,p=>by simp only[au]at p;subst p;simp[cD,Ev.cD,au]
 |x :: xs,_,k,p=>by
  simp only[au]at p;obtain⟨d,ds,rfl,p1,p2⟩:=p;simp only[cD,Ev.cD];exact .cons ⟨_,rfl,.cons rfl (.cons p1 .nil)⟩ (zF _ p2)
end
noncomputable def lT(M B:Nat->Prop)(h:Hh)(S:Nat->Prop):Option Sl->Option D->Prop
 |none,p=>p=none
 |some (.val v),p=>∃d,p=some d/\Rep h S v d
 |some (.own l),p=>∃m ds,p=some (.ref m)/\(M m/\¬ B m)/\h[m]?=some (.lst ds)/\au h S l ds
 |some (.bor l),p=>∃m ds,p=some (.ref m)/\(M m/\B m)/\h[m]?=some (.lst ds)/\au h S l ds
 |some (.ro l),p=>∃m ds,p=some (.ref m)/\¬ M m/\h[m]?=some (.lst ds)/\au h S l ds
noncomputable def iL:Option Sl->Bool
 |some (.own _)=>true
 |some (.bor _)=>true
 |_=>false
noncomputable def zG:Option Sl->Bool
 |some (.bor _)=>true
 |some (.ro _)=>true
 |_=>false
noncomputable def locked(fr:Fr)(i:Nat):Bool:=match fr[i]? with
 |some o=>zG o
 |none=>false
structure bh(M B:Nat->Prop)(h:Hh)(S:Nat->Prop)(fr:Fr)(aj:Ev.Fr):Prop where
 wS:∀m,S m->m<h.length/\¬ M m/\¬ B m
 wM:∀m,M m->m<h.length
 wB:∀m,B m->m<h.length
 len:fr.length=aj.length
 sl:∀(i:Nat) o p,fr[i]?=some o->aj[i]?=some p->lT M B h S o p
 inj:∀(i j:Nat) o o' m,fr[i]?=some o->fr[j]?=some o'->iL o=true->iL o'=true->aj[i]?=some (some (.ref m))->aj[j]?=some (some (.ref m))->i=j
structure Tk(X:Nat->Prop)(h:Hh)(S:Nat->Prop)(h':Hh)(S':Nat->Prop):Prop where
 len:h.length<=h'.length
 keep:∀m,m<h.length->¬ X m->h'[m]?=h[m]?
 sub:∀m,S m->S' m
 new:∀m,S' m->S m\/(h.length<=m/\m<h'.length)
noncomputable def Xs(M:Nat->Prop)(aj:Ev.Fr)(l:List Nat):Nat->Prop:=λm=>M m/\∃i∈l,aj[i]?=some (some (.ref m))
structure Out(M B:Nat->Prop)(c:List Nat)(h:Hh)(S:Nat->Prop)(fr:Fr)(aj:Ev.Fr)(h':Hh)(S':Nat->Prop)(af:Fr):Prop where
 f:bh M B h' S' af aj
 tr:Tk (Xs M aj c) h S h' S'
 lk:∀i,locked af i=locked fr i
section
variable{M B:Nat->Prop}{h h' h1 h2:Hh}{S S' S1 S2:Nat->Prop}{fr af ao:Fr}{aj:Ev.Fr}{c c1 c2:List Nat}{v:V}{d:D}{X X1 X2:Nat->Prop}
def bh.get(f:bh M B h S fr aj){i:Nat}{o:Option Sl}(e:fr[i]?=some o):∃p,aj[i]?=some p/\lT M B h S o p:=by
 have h1:=(List.getElem?_eq_some_iff.mp e).1;rw[f.len]at h1;exact⟨aj[i],WR h1,f.sl i o _ e (WR h1)⟩
def bh.w(f:bh M B h S fr aj):∀m,S m->m<h.length:=λm q=>(f.wS m q).1
def Al.tr(a:Al h S h' S'):Tk X h S h' S':=⟨a.len,λm q _=>a.keep m q,a.sub,a.new⟩
def Tk.al(t:Tk X h S h' S')(z:∀m,¬ X m):Al h S h' S':=⟨t.len,λm q=>t.keep m q (z m),t.sub,t.new⟩
def Tk.weak(t:Tk X h S h' S')(q:∀m,X m->X1 m):Tk X1 h S h' S':=⟨t.len,λm k z=>t.keep m k λy=>z (q m y),t.sub,t.new⟩
def Tk.trans(a:Tk X1 h S h1 S1)(b:Tk X2 h1 S1 h2 S2):Tk (λm=>X1 m\/X2 m) h S h2 S2 where
 len:=aaf a.len b.len
 keep:=λm q z=>by rw[b.keep m (xT q a.len) (λy=>z (.inr y)),a.keep m q (λy=>z (.inl y))]
 sub:=λm q=>b.sub m (a.sub m q)
 new:=λm q=>by
  rcases b.new m q with q|⟨q1,q2⟩
  .rcases a.new m q with q|⟨q1,q2⟩
   .exact .inl q
   .exact .inr ⟨q1,xT q2 b.len⟩
  .exact .inr ⟨aaf a.len q1,q2⟩
theorem Al.trans(a:Al h S h1 S1)(b:Al h1 S1 h2 S2):Al h S h2 S2:=((a.tr (X:=λ_=>False)).trans (b.tr (X:=λ_=>False))).al λm z=>by simp at z
def Tk.refl:Tk X h S h S:=⟨Ad _,λ_ _ _=>rfl,λ_ q=>q,λ_ q=>.inl q⟩
def Xs.app{l1 l2:List Nat}{m:Nat}:Xs M aj (l1++l2) m↔Xs M aj l1 m\/Xs M aj l2 m:=by
 unfold Xs;constructor
 .rintro⟨a,i,hi,e⟩;rcases List.mem_append.mp hi with hi|hi
  .exact .inl ⟨a,i,hi,e⟩
  .exact .inr ⟨a,i,hi,e⟩
 .rintro(⟨a,i,hi,e⟩|⟨a,i,hi,e⟩)
  .exact⟨a,i,List.mem_append.mpr (.inl hi),e⟩
  .exact⟨a,i,List.mem_append.mpr (.inr hi),e⟩
def Xs.nil{m:Nat}:¬ Xs M aj [] m:=by rintro⟨_,i,hi,_⟩;simp at hi
def Xs.mono{l1 l2:List Nat}(q:∀i∈l1,i∈l2){m:Nat}:Xs M aj l1 m->Xs M aj l2 m:=λ⟨a,i,hi,e⟩=>⟨a,i,q i hi,e⟩
def Rep.tr(q:Rep h S v d)(f:bh M B h S fr aj)(t:Tk (Xs M aj c) h S h' S'):Rep h' S' v d:=q.mono (λm z=>t.keep m (f.wS m z).1 (λy=>(f.wS m z).2.1 y.1)) t.sub
def au.tr{l:List V}{ds:List D}(q:au h S l ds)(f:bh M B h S fr aj)(t:Tk (Xs M aj c) h S h' S'):au h' S' l ds:=q.mono (λm z=>t.keep m (f.wS m z).1 (λy=>(f.wS m z).2.1 y.1)) t.sub
def br.tr(q:br h S v d)(f:bh M B h S fr aj)(t:Tk X h S h' S')(z:∀m,¬ X m):br h' S' v d:=q.mono (λm k=>t.keep m k (z m)) f.w t.sub
def lT.al{o:Option Sl}{p:Option D}(q:lT M B h S o p)(w:∀m,S m->m<h.length)(a:Al h S h' S'):lT M B h' S' o p:=by
 have k:∀m,S m->h'[m]?=h[m]?:=λm z=>a.keep m (w m z);have g:∀(m:Nat) (ds:List D),h[m]?=some (O.lst ds)->h'[m]?=some (O.lst ds):=λm ds z=>by rw[a.keep m (List.getElem?_eq_some_iff.mp z).1];exact z
 rcases o with _|s
 .exact q
 .cases s with
  |val v=>obtain⟨d,e,q⟩:=q;exact⟨d,e,q.mono k a.sub⟩
  |own l=>obtain⟨m,ds,e,z,y,q⟩:=q;exact⟨m,ds,e,z,g m ds y,q.mono k a.sub⟩
  |bor l=>obtain⟨m,ds,e,z,y,q⟩:=q;exact⟨m,ds,e,z,g m ds y,q.mono k a.sub⟩
  |ro l=>obtain⟨m,ds,e,z,y,q⟩:=q;exact⟨m,ds,e,z,g m ds y,q.mono k a.sub⟩
theorem bh.al(f:bh M B h S fr aj)(a:Al h S h' S'):bh M B h' S' fr aj where
 wS:=λm q=>by
  rcases a.new m q with q|⟨q1,q2⟩
  .exact⟨xT (f.wS m q).1 a.len,(f.wS m q).2⟩
  .exact⟨q2,λz=>by have:=f.wM m z;omega,λz=>by have:=f.wB m z;omega⟩
 wM:=λm q=>xT (f.wM m q) a.len
 wB:=λm q=>xT (f.wB m q) a.len
 len:=f.len
 sl:=λi o p e1 e2=>(f.sl i o p e1 e2).al f.w a
 inj:=f.inj
theorem Out.refl(f:bh M B h S fr aj):Out M B c h S fr aj h S fr:=⟨f,.refl,λ_=>rfl⟩
theorem Out.trans(a:Out M B c1 h S fr aj h1 S1 af)(b:Out M B c2 h1 S1 af aj h2 S2 ao):Out M B (c1++c2) h S fr aj h2 S2 ao:=⟨b.f,(a.tr.trans b.tr).weak λm z=>Xs.app.mpr z,λi=>(b.lk i).trans (a.lk i)⟩
theorem Out.al(a:Out M B c h S fr aj h1 S1 af)(b:Al h1 S1 h2 S2):Out M B c h S fr aj h2 S2 af:=⟨a.f.al b,(a.tr.trans (b.tr (X:=λ_=>False))).weak (λm z=>by rcases z with z|z;exact z;exact z.elim),a.lk⟩
theorem Out.weak(a:Out M B c h S fr aj h1 S1 af)(q:∀i∈c,i∈c1):Out M B c1 h S fr aj h1 S1 af:=⟨a.f,a.tr.weak λm z=>Xs.mono q z,a.lk⟩
noncomputable def gH(k:Bool)(h:Hh)(S:Nat->Prop)(v:V)(d:D):Prop:=if k=true then br h S v d else Rep h S v d
def gH.of{k:Bool}(q:Rep h S v d):gH k h S v d:=by unfold gH;split;exact q.top;exact q
def gH.t{k:Bool}(q:gH k h S v d):br h S v d:=by unfold gH at q;split at q;exact q;exact q.top
def gH.n(q:gH false h S v d):Rep h S v d:=by simpa[gH]using q
def bh.slot(f:bh M B h S fr aj){i m:Nat}(e:aj[i]?=some (some (.ref m)))(hm:M m):∃o,fr[i]?=some o/\iL o=true:=by
 have hl:i<fr.length:=by rw[f.len];exact(List.getElem?_eq_some_iff.mp e).1
 refine⟨fr[i],WR hl,?_⟩;have s:=f.sl i _ _ (WR hl) e
 revert s
 generalize fr[i]=o
 intro s;rcases o with _|s'
 .cases s
 .cases s' with
  |own l=>rfl
  |bor l=>rfl
  |ro l=>obtain⟨m',ds,e,y,_⟩:=s;cases e;exact absurd hm y
  |val v=>
   obtain⟨d,e,q⟩:=s;cases e;exfalso;cases v<;>simp only[Rep,reduceCtorEq]at q
   .obtain⟨_,e,_⟩:=q;cases e
   .obtain⟨n,ds,e,sn,_⟩:=q;cases e;exact(f.wS _ sn).2.1 hm
   .obtain⟨n,ds,e,sn,_⟩:=q;cases e;exact(f.wS _ sn).2.1 hm
   .obtain⟨n,e,sn,_⟩:=q;cases e;exact(f.wS _ sn).2.1 hm
theorem gH.tr{k:Bool}{a:E}(q:gH k h S v d)(f:bh M B h S fr aj)(t:Tk (Xs M aj c) h S h' S')(hk:k=true->kf a c=true)(ha:∀i,a=.v i->aj[i]?.join=some d):gH k h' S' v d:=by
 unfold gH at q ⊢;split at q
 .rename_i e;rw[mD e];have hk:=hk e;have gen:c=[]->br h' S' v d:=λz=>q.tr f t λm y=>by subst z;exact Xs.nil y
  by_cases hv:∃i,a=.v i
  .obtain⟨i0,rfl⟩:=hv;simp only[kf,aaX,List.contains_eq_mem,decide_eq_false_iff_not]at hk;cases v
   case lst l=>
    simp only[br]at q ⊢;obtain⟨n,ds,rfl,b1,b2⟩:=q;refine⟨n,ds,rfl,?_,b2.tr f t⟩;rw[t.keep n (List.getElem?_eq_some_iff.mp b1).1 ?_]
    .exact b1
    .rintro⟨mn,j,hj,ej⟩;have e2:aj[i0]?=some (some (D.ref n)):=by
      have:=ha i0 rfl;cases z:aj[i0]? with
      |none=>rw[z]at this;cases this
      |some p=>rw[z]at this;simp at this;rw[this]
     obtain⟨o1,y1,y2⟩:=f.slot e2 mn;obtain⟨o2,y3,y4⟩:=f.slot ej mn;have:=f.inj i0 j o1 o2 n y1 y3 y2 y4 e2 ej;subst this;exact hk hj
   all_goals exact Rep.tr (show Rep h S _ d from q) f t
  .have:kf a c=c.isEmpty:=by
    cases a<;>first|rfl|exact absurd ⟨_,rfl⟩ hv
   rw[this,List.isEmpty_iff]at hk;exact gen hk
 .rename_i e;rw[Yv e];exact q.tr f t
def KN{k:Bool}{i:Nat}(e:jg k fr i=some v)(f:bh M B h S fr aj):∃d,aj[i]?.join=some d/\gH k h S v d:=by
  unfold jg at e;split at e
  . rename_i z;obtain⟨p,e1,q⟩:=f.get z;obtain⟨d,rfl,q⟩:=q;cases e;exact⟨d,by rw[e1];rfl,.of q⟩
  all_goals first
    | (rename_i z
       obtain⟨p,e1,q⟩:=f.get z;obtain⟨m,ds,rfl,_,y,q⟩:=q;split at e
       . rename_i hk;cases e;exact⟨.ref m,by rw[e1];rfl,by unfold gH;rw[mD hk];exact⟨m,ds,rfl,y,q⟩⟩
       . cases e)
    |cases e
def iM{i:Nat}{s:Sl}(e:lent fr i=some s)(f:bh M B h S fr aj):∃m ds l o,fr[i]?=some o/\aj[i]?=some (some (.ref m))/\h[m]?=some (.lst ds)/\au h S l ds/\((s=.bor l/\M m/\iL o=true)\/(s=.ro l/\¬ M m/\o=some (.ro l))):=by
 unfold lent at e;split at e
 .rename_i s' z;obtain⟨p,e1,q⟩:=f.get z;cases s' with
  |val v=>simp[Sl.lend]at e
  |own l=>
   simp[Sl.lend]at e;subst e;obtain⟨m,ds,rfl,y,y1,q⟩:=q;exact⟨m,ds,l,_,z,e1,y1,q,.inl ⟨rfl,y.1,rfl⟩⟩
  |bor l=>
   simp[Sl.lend]at e;subst e;obtain⟨m,ds,rfl,y,y1,q⟩:=q;exact⟨m,ds,l,_,z,e1,y1,q,.inl ⟨rfl,y.1,rfl⟩⟩
  |ro l=>
   simp[Sl.lend]at e;subst e;obtain⟨m,ds,rfl,y,y1,q⟩:=q;exact⟨m,ds,l,_,z,e1,y1,q,.inr ⟨rfl,y,rfl⟩⟩
 .cases e
noncomputable def uW(h:Hh)(S:Nat->Prop)(aj:Ev.Fr):List (Nat ⊕ V)->List D->Prop
 |[],ds=>ds=[]
 |.inl i :: r,ds=>∃d es,ds=d :: es/\aj[i]?=some (some d)/\uW h S aj r es
 |.inr v :: r,ds=>∃d es,ds=d :: es/\Rep h S v d/\uW h S aj r es
noncomputable def lM(h:Hh)(S:Nat->Prop):List Sl->List D->List (List V)->Prop
 |[],_,os=>os=[]
 |.val _ :: sl,ds,os=>∃d es,ds=d :: es/\lM h S sl es os
 |.own _ :: _,_,_=>False
 |_ :: sl,ds,os=>∃d es l r m cs,ds=d :: es/\os=l :: r/\d=.ref m/\h[m]?=some (.lst cs)/\au h S l cs/\lM h S sl es r
noncomputable def pe(P:aL)(P':Ev.aL):Prop:=∀f sl v os,P f sl=some (v,os)->∀(h:Hh) (S B:Nat->Prop) (ds:List D),bh B B h S (sl.map some) (ds.map some)->
 ∃d h' S',P' f ds h=.ok d h'/\Rep h' S' v d/\Tk B h S h' S'/\lM h' S' sl ds os
theorem args_get(f:bh M B h S fr aj):∀{as:List (Nat ⊕ V)}{sl:List Sl}{ds:List D},args fr as=some sl->uW h S aj as ds->sl.length=ds.length/\∀(a:Nat) s d,sl[a]?=some s->ds[a]?=some d->
  (∃i,as[a]?=some (.inl i)/\lent fr i=some s/\aj[i]?=some (some d))\/(∃v,s=.val v/\Rep h S v d)
 |[],sl,ds,e,q=>by
  simp[args]at e;simp only[uW]at q;subst e q;simp
 |.inl i :: r,sl,ds,e,q=>by
  simp only[args,V4,gV]at e;obtain⟨s,e1,l,e2,rfl⟩:=e;obtain⟨d,es,rfl,q1,q⟩:=q;obtain⟨h1,h2⟩:=args_get f e2 q;refine⟨by simp[h1],λa s' d' z1 z2=>?_⟩;cases a with
  |zero=>simp at z1 z2;subst z1 z2;exact .inl ⟨i,by simp,e1,q1⟩
  |succ a=>exact(h2 a s' d' (by simpa using z1) (by simpa using z2)).imp (λ⟨i,k,z⟩=>⟨i,by simpa using k,z⟩) id
 |.inr v :: r,sl,ds,e,q=>by
  simp only[args,gV]at e;obtain⟨l,e2,rfl⟩:=e;obtain⟨d,es,rfl,q1,q⟩:=q;obtain⟨h1,h2⟩:=args_get f e2 q;refine⟨by simp[h1],λa s' d' z1 z2=>?_⟩;cases a with
  |zero=>simp at z1 z2;subst z1 z2;exact .inr ⟨v,rfl,q1⟩
  |succ a=>exact(h2 a s' d' (by simpa using z1) (by simpa using z2)).imp (λ⟨i,k,z⟩=>⟨i,by simpa using k,z⟩) id
theorem iN:∀{as:List (Nat ⊕ V)}{a i:Nat},as[a]?=some (.inl i)->i∈bK as
 |[],_,_,e=>by simp at e
 |.inl j :: r,0,i,e=>by simp at e;subst e;simp[bK]
 |.inr j :: r,0,i,e=>by simp at e
 |.inl j :: r,a+1,i,e=>by have:=iN (as:=r) (a:=a) (i:=i) (by simpa using e);simp[bK,this]
 |.inr j :: r,a+1,i,e=>by have:=iN (as:=r) (a:=a) (i:=i) (by simpa using e);simp[bK,this]
theorem nX:∀{as:List (Nat ⊕ V)}{a b i:Nat},(bK as).Nodup->as[a]?=some (.inl i)->as[b]?=some (.inl i)->a=b
 |[],_,_,_,_,e,_=>by simp at e
 |x :: r,0,0,_,_,_,_=>rfl
 |.inr j :: r,0,b+1,i,n,e,_=>by simp at e
 |.inl j :: r,0,b+1,i,n,e,e2=>by
  simp at e;subst e;simp only[bK,ab1]at n;exact absurd (iN (as:=r) (a:=b) (by simpa using e2)) n.1
 |.inr j :: r,a+1,0,i,n,_,e=>by simp at e
 |.inl j :: r,a+1,0,i,n,e2,e=>by
  simp at e;subst e;simp only[bK,ab1]at n;exact absurd (iN (as:=r) (a:=a) (by simpa using e2)) n.1
 |.inl j :: r,a+1,b+1,i,n,e1,e2=>by
  simp only[bK,ab1]at n;have:=nX (as:=r) (a:=a) (b:=b) (i:=i) n.2 (by simpa using e1) (by simpa using e2);omega
 |.inr j :: r,a+1,b+1,i,n,e1,e2=>by
  simp only[bK]at n;have:=nX (as:=r) (a:=a) (b:=b) (i:=i) n (by simpa using e1) (by simpa using e2);omega
def FU{s:Sl}{l:List V}:iL (some (s.with l))=iL (some s):=by cases s<;>rfl
def zH{s:Sl}{l:List V}:zG (some (s.with l))=zG (some s):=by cases s<;>rfl
theorem wY:∀{is:List Nat}{ls:List (List V)}{fr af:Fr},back is ls fr=some af->is.Nodup->af.length=fr.length/\(∀i,i∉is->af[i]?=fr[i]?)/\∀i∈is,∃(k:Nat) (s:Sl) (l:List V),is[k]?=some i/\ls[k]?=some l/\fr[i]?=some (some s)/\af[i]?=some (some (s.with l))
 |[],[],fr,af,e,_=>by simp[back]at e;subst e;simp
 |[],_ :: _,_,_,e,_=>by simp[back]at e
 |_ :: _,[],_,_,e,_=>by simp[back]at e
 |i :: is,l :: ls,fr,af,e,n=>by
  simp only[back]at e;simp only[ab1]at n;split at e
  .rename_i s z;obtain⟨h1,h2,h3⟩:=wY e n.2;refine⟨by simpa using h1,λj hj=>?_,λj hj=>?_⟩
   .simp at hj;rw[h2 j hj.2,UJ (λq=>hj.1 q.symm)]
   .rcases List.mem_cons.mp hj with rfl|hj
    .exact⟨0,s,l,by simp,by simp,z,by rw[h2 j n.1,WS (List.getElem?_eq_some_iff.mp z).1]⟩
    .obtain⟨k,s',l',a,b,c,d⟩:=h3 j hj;have hne:i≠j:=λq=>n.1 (q▸hj);rw[UJ hne]at c;exact⟨k+1,s',l',by simpa using a,by simpa using b,c,d⟩
  .cases e
theorem nY(f:bh M B h S fr aj):∀{as:List (Nat ⊕ V)}{sl:List Sl}{ds:List D}{os:List (List V)},args fr as=some sl->uW h S aj as ds->lM h' S' sl ds os->
  ∀(k i:Nat) l,(bK as)[k]?=some i->os[k]?=some l->∃m cs,aj[i]?=some (some (.ref m))/\h'[m]?=some (.lst cs)/\au h' S' l cs
 |[],sl,ds,os,e,q,o=>by simp[bK]
 |.inl i :: r,sl,ds,os,e,q,o=>by
  simp only[args,V4,gV]at e;obtain⟨s,e1,l,e2,rfl⟩:=e;obtain⟨d,es,rfl,q1,q⟩:=q;obtain⟨m,cs,l0,o0,_,z2,z3,z4,z5⟩:=iM e1 f;have key:∃l1 r1 cs,os=l1 :: r1/\h'[m]?=some (.lst cs)/\au h' S' l1 cs/\lM h' S' l es r1:=by
   rw[q1]at z2;cases z2;rcases z5 with ⟨rfl,_⟩|⟨rfl,_⟩
   .obtain⟨d',es',l1,r1,m1,Dt,a1,a2,a3,a4,a5,a6⟩:=o;cases a1;cases a3;exact⟨l1,r1,Dt,a2,a4,a5,a6⟩
   .obtain⟨d',es',l1,r1,m1,Dt,a1,a2,a3,a4,a5,a6⟩:=o;cases a1;cases a3;exact⟨l1,r1,Dt,a2,a4,a5,a6⟩
  obtain⟨l1,r1,Dt,rfl,a4,a5,a6⟩:=key;intro k j l' y1 y2;cases k with
  |zero=>simp[bK]at y1 y2;subst y1 y2;exact⟨m,Dt,z2,a4,a5⟩
  |succ k=>exact nY f e2 q a6 k j l' (by simpa[bK]using y1) (by simpa using y2)
 |.inr v :: r,sl,ds,os,e,q,o=>by
  simp only[args,gV]at e;obtain⟨l,e2,rfl⟩:=e;obtain⟨d,es,rfl,q1,q⟩:=q;obtain⟨d',es',a1,a2⟩:=o;cases a1;intro k j l' y1 y2;exact nY f e2 q a2 k j l' (by simpa[bK]using y1) y2
theorem mT:∀{as:List (Nat ⊕ V)}{sl:List Sl}{i:Nat},args fr as=some sl->i∈bK as->∃s,lent fr i=some s
 |[],_,_,_,q=>by simp[bK]at q
 |.inl j :: r,_,i,z,q=>by
  simp only[args,V4,gV]at z;obtain⟨s,e1,l,e2,rfl⟩:=z;simp[bK]at q;rcases q with rfl|q
  .exact⟨s,e1⟩
  .exact mT e2 q
 |.inr u :: r,_,i,z,q=>by
  simp only[args,gV]at z;obtain⟨l,e2,rfl⟩:=z;exact mT e2 (by simpa[bK]using q)
noncomputable def LB(fr:Fr)(aj:Ev.Fr)(as:List (Nat ⊕ V)):Nat->Prop:=λm=>∃(i:Nat) (o:Option Sl),i∈bK as/\fr[i]?=some o/\iL o=true/\aj[i]?=some (some (.ref m))
theorem LB.m(f:bh M B h S fr aj){as:List (Nat ⊕ V)}:∀m,LB fr aj as m->M m:=λm ⟨i,o,_,a,b,c⟩=>by
  have s:=f.sl i o _ a c;rcases o with _|s'
  .cases b
  .cases s' with
   |val v=>cases b
   |ro l=>cases b
   |own l=>obtain⟨m',ds',e,y,_⟩:=s;cases e;exact y.1
   |bor l=>obtain⟨m',ds',e,y,_⟩:=s;cases e;exact y.1
def zI(f:bh M B h S fr aj){as:List (Nat ⊕ V)}{sl:List Sl}{ds:List D}(nd:(bK as).Nodup)(z:args fr as=some sl)(q:uW h S aj as ds):bh (LB fr aj as) (LB fr aj as) h S (sl.map some) (ds.map some):=by
 have qa:=LB.m f (as:=as);obtain⟨hl,hg⟩:=args_get f z q;refine⟨λm y=>⟨(f.wS m y).1,λz=>(f.wS m y).2.1 (qa m z),λz=>(f.wS m y).2.1 (qa m z)⟩,λm y=>f.wM m (qa m y),λm y=>f.wM m (qa m y),by simp[hl],λa o p y1 y2=>?_,λa b o o' m y1 y2 y3 y4 y5 y6=>?_⟩
 .simp at y1 y2;obtain⟨s,y1,rfl⟩:=y1;obtain⟨d,y2,rfl⟩:=y2;rcases hg a s d y1 y2 with ⟨i,k1,k2,k3⟩|⟨u,rfl,k⟩
  .obtain⟨m,cs,l0,o0,w1,w2,w3,w4,w5⟩:=iM k2 f;rw[k3]at w2;cases w2;rcases w5 with ⟨rfl,w6,w7⟩|⟨rfl,w6,w7⟩
   .exact⟨m,cs,rfl,⟨⟨i,o0,iN k1,w1,w7,k3⟩,⟨i,o0,iN k1,w1,w7,k3⟩⟩,w3,w4⟩
   .exact⟨m,cs,rfl,λz=>w6 (qa m z),w3,w4⟩
  .exact⟨d,rfl,k⟩
 .simp at y1 y2 y5 y6;obtain⟨s,y1,rfl⟩:=y1;obtain⟨s',y2,rfl⟩:=y2;rcases hg a s _ y1 y5 with ⟨i,k1,k2,k3⟩|⟨u,rfl,k⟩
  .rcases hg b s' _ y2 y6 with ⟨j,k4,k5,k6⟩|⟨u,rfl,k⟩
   .obtain⟨m1,_,l1,o1,w1,w2,_,_,w5⟩:=iM k2 f;obtain⟨m2,_,l2,o2,x1,x2,_,_,x5⟩:=iM k5 f;have i1:iL o1=true:=by rcases w5 with ⟨_,_,w7⟩|⟨rfl,_,_⟩;exact w7;cases y3
    have i2:iL o2=true:=by rcases x5 with ⟨_,_,w7⟩|⟨rfl,_,_⟩;exact w7;cases y4
    have:=f.inj i j o1 o2 m w1 x1 i1 i2 k3 k6;subst this;exact nX nd k1 k4
   .cases y4
  .cases y3
def qu{P:aL}{P':Ev.aL}(HP:pe P P'){g:Nat}{as:List (Nat ⊕ V)}{ds:List D}(e:cS P g as fr=.ok v af)(f:bh M B h S fr aj)(q:uW h S aj as ds) :
  ∃d h' S',P' g ds h=.ok d h'/\Rep h' S' v d/\Out M B (bK as) h S fr aj h' S' af:=by
 unfold cS at e;split at e
 case isFalse=>cases e
 rename_i nd;cases z:args fr as with
 |none=>rw[z]at e;cases e
 |some sl=>
 rw[z]at e;simp only at e;cases z2:P g sl with
 |none=>rw[z2]at e;cases e
 |some vo=>
 obtain⟨v',os⟩:=vo;rw[z2]at e;simp only at e;cases z3:back (bK as) os fr with
 |none=>rw[z3]at e;cases e
 |some ao=>
 rw[z3]at e;simp at e;obtain⟨rfl,rfl⟩:=e;obtain⟨hl,hg⟩:=args_get f z q
 let B0:Nat->Prop:=LB fr aj as
 have qa:∀m,B0 m->M m:=LB.m f;have F0:bh B0 B0 h S (sl.map some) (ds.map some):=zI f nd z q;obtain⟨d,h',S',c1,c2,c3,c4⟩:=HP g sl v' os z2 h S B0 ds F0;obtain⟨b1,b2,b3⟩:=wY z3 nd;have hL:=nY f z q c4;have rE:∀m,S m->h'[m]?=h[m]?:=λm y=>c3.keep m (f.wS m y).1 (λz=>(f.wS m y).2.1 (qa m z));refine⟨d,h',S',c1,c2,⟨?_,?_,?_⟩⟩
 .refine⟨λm y=>?_,λm y=>xT (f.wM m y) c3.len,λm y=>xT (f.wB m y) c3.len,by rw[b1,f.len],λi o p y1 y2=>?_,λi j o o' m y1 y2 y3 y4 y5 y6=>?_⟩
  .rcases c3.new m y with y|⟨y1,y2⟩
   .exact⟨xT (f.wS m y).1 c3.len,(f.wS m y).2⟩
   .exact⟨y2,λz=>by have:=f.wM m z;omega,λz=>by have:=f.wB m z;omega⟩
  .by_cases hi:i∈bK as
   .obtain⟨k,s,l,w1,w2,w3,w4⟩:=b3 i hi;rw[w4]at y1;cases y1;obtain⟨m,cs,x1,x2,x3⟩:=hL k i l w1 w2;rw[x1]at y2;cases y2;have old:=f.sl i _ _ w3 x1;cases s with
    |val u=>
     exfalso;have:∃s,lent fr i=some s:=mT z hi;obtain⟨s,hs⟩:=this;simp[lent,w3,Sl.lend]at hs
    |own u=>obtain⟨m',ds',e,y,_⟩:=old;cases e;exact⟨m,cs,rfl,y,x2,x3⟩
    |bor u=>obtain⟨m',ds',e,y,_⟩:=old;cases e;exact⟨m,cs,rfl,y,x2,x3⟩
    |ro u=>
     obtain⟨m',ds',e,y,y1,y2⟩:=old;cases e;refine⟨m,ds',rfl,y,?_,y2.mono rE c3.sub⟩;rw[c3.keep m (List.getElem?_eq_some_iff.mp y1).1 (λz=>y (qa m z))];exact y1
   .rw[b2 i hi]at y1;have old:=f.sl i o p y1 y2;rcases o with _|s
    .exact old
    .cases s with
     |val u=>obtain⟨d,e,q⟩:=old;exact⟨d,e,q.mono rE c3.sub⟩
     |own u=>
      obtain⟨m,ds',rfl,w1,w2,w3⟩:=old;refine⟨m,ds',rfl,w1,?_,w3.mono rE c3.sub⟩;rw[c3.keep m (f.wM m w1.1) (λ⟨j,o2,x1,x2,x3,x4⟩=>hi (f.inj i j _ o2 m y1 x2 rfl x3 y2 x4▸x1))];exact w2
     |bor u=>
      obtain⟨m,ds',rfl,w1,w2,w3⟩:=old;refine⟨m,ds',rfl,w1,?_,w3.mono rE c3.sub⟩;rw[c3.keep m (f.wM m w1.1) (λ⟨j,o2,x1,x2,x3,x4⟩=>hi (f.inj i j _ o2 m y1 x2 rfl x3 y2 x4▸x1))];exact w2
     |ro u=>
      obtain⟨m,ds',rfl,w1,w2,w3⟩:=old;refine⟨m,ds',rfl,w1,?_,w3.mono rE c3.sub⟩;rw[c3.keep m (List.getElem?_eq_some_iff.mp w2).1 (λz=>w1 (qa m z))];exact w2
  .have kind:∀(i:Nat) o,ao[i]?=some o->iL o=true->∃o0,fr[i]?=some o0/\iL o0=true:=λi o w1 w2=>by
    by_cases hi:i∈bK as
    .obtain⟨k,s,l,x1,x2,x3,x4⟩:=b3 i hi;rw[x4]at w1;cases w1;exact⟨_,x3,by rw[FU]at w2;exact w2⟩
    .rw[b2 i hi]at w1;exact⟨o,w1,w2⟩
   obtain⟨oi,k1,k2⟩:=kind i o y1 y3;obtain⟨oj,k3,k4⟩:=kind j o' y2 y4;exact f.inj i j oi oj m k1 k3 k2 k4 y5 y6
 .exact c3.weak λm z=>⟨qa m z,by obtain⟨i,o,a1,a2,a3,a4⟩:=z;exact⟨i,a1,a4⟩⟩
 .intro i;unfold locked;by_cases hi:i∈bK as
  .obtain⟨k,s,l,x1,x2,x3,x4⟩:=b3 i hi;rw[x3,x4];exact zH
  .rw[b2 i hi]
end
end Pv
namespace Pv
open Ev (D O Hh)
end Pv
namespace Pv
open Ev (D O Hh bw bq TY BI ME T E Es Eo It S Ss Fn big deep b2i rep bT cL bE aP cut bZ cJ slots bx)
section
variable{M B:Nat->Prop}{h h' h1 h2:Hh}{S S' S1 S2:Nat->Prop}{fr af ao:Fr}{aj:Ev.Fr}{c:List Nat}{v:V}{d:D}
def lZ{n m:Nat}{o:O}(q:n≠m):(h.set n o)[m]?=h[m]?:=UJ q
def bh.mM(f:bh M B h S fr aj){i n:Nat}{o:Option Sl}(e:fr[i]?=some o)(hM:iL o=true)(e':aj[i]?=some (some (.ref n))):M n:=by
 have s:=f.sl i o _ e e';rcases o with _|s'
 .cases hM
 .cases s' with
  |val v=>cases hM
  |ro l=>cases hM
  |own l=>obtain⟨m',ds',e,y,_⟩:=s;cases e;exact y.1
  |bor l=>obtain⟨m',ds',e,y,_⟩:=s;cases e;exact y.1
def bh.write(f:bh M B h S fr aj){i n:Nat}{s:Sl}{l':List V}{ds':List D}(e:fr[i]?=some (some s))(hM:iL (some s)=true)(e':aj[i]?=some (some (.ref n)))(q:au h S l' ds') :
  bh M B (h.set n (.lst ds')) S (fr.set i (some (s.with l'))) aj:=by
 have mn:=f.mM e hM e';have kp:∀m,S m->(h.set n (.lst ds'))[m]?=h[m]?:=λm z=>lZ λy=>(f.wS m z).2.1 (y▸mn);have il:=(List.getElem?_eq_some_iff.mp e).1;refine⟨λm y=>by simpa using f.wS m y,λm y=>by simpa using f.wM m y,λm y=>by simpa using f.wB m y,by simp[f.len],λj o p y1 y2=>?_,λj k o o' m y1 y2 y3 y4 y5 y6=>?_⟩
 .by_cases hj:i=j
  .subst hj;rw[WS il]at y1;cases y1;rw[e']at y2;cases y2;have old:=f.sl i _ _ e e';have hn:(h.set n (.lst ds'))[n]?=some (.lst ds'):=WS (f.wM n mn);cases s with
   |val v=>cases hM
   |ro l=>cases hM
   |own l=>obtain⟨m',_,e,y,_⟩:=old;cases e;exact⟨n,ds',rfl,y,hn,q.mono kp λ_ z=>z⟩
   |bor l=>obtain⟨m',_,e,y,_⟩:=old;cases e;exact⟨n,ds',rfl,y,hn,q.mono kp λ_ z=>z⟩
  .rw[UJ hj]at y1;have old:=f.sl j o p y1 y2;rcases o with _|s'
   .exact old
   .cases s' with
    |val u=>obtain⟨d,e,q⟩:=old;exact⟨d,e,q.mono kp λ_ z=>z⟩
    |own u=>
     obtain⟨m,es,rfl,w1,w2,w3⟩:=old;refine⟨m,es,rfl,w1,?_,w3.mono kp λ_ z=>z⟩;rw[lZ λ(z:n=m)=>hj (f.inj i j _ _ n e y1 hM rfl e' (by rw[z];exact y2))];exact w2
    |bor u=>
     obtain⟨m,es,rfl,w1,w2,w3⟩:=old;refine⟨m,es,rfl,w1,?_,w3.mono kp λ_ z=>z⟩;rw[lZ λ(z:n=m)=>hj (f.inj i j _ _ n e y1 hM rfl e' (by rw[z];exact y2))];exact w2
    |ro u=>
     obtain⟨m,es,rfl,w1,w2,w3⟩:=old;refine⟨m,es,rfl,w1,?_,w3.mono kp λ_ z=>z⟩;rw[lZ λ(z:n=m)=>w1 (z▸mn)];exact w2
 .have kind:∀(j:Nat) o,(fr.set i (some (s.with l')))[j]?=some o->iL o=true->∃o0,fr[j]?=some o0/\iL o0=true:=λj o w1 w2=>by
   by_cases hj:i=j
   .subst hj;exact⟨_,e,hM⟩
   .rw[UJ hj]at w1;exact⟨o,w1,w2⟩
  obtain⟨oi,k1,k2⟩:=kind j o y1 y3;obtain⟨oj,k3,k4⟩:=kind k o' y2 y4;exact f.inj j k oi oj m k1 k3 k2 k4 y5 y6
def OB{m:ME}{l l':List V}{xs:List V}{n:Nat}{ds es:List D}(z:kC m l xs=some (v,l'))(e:h[n]?=some (.lst ds))(q:au h S l ds)(p:gk h S xs es)(p':zA m=false->au h S xs es)(hS:∀k,S k->k≠n) :
  ∃r ds',Ev.fq m (.ref n) es h=.ok r (h.set n (.lst ds'))/\Rep h S v r/\au h S l' ds':=by
 unfold kC at z;split at z
 .have p':=p' rfl;split at z
  .rename_i k;cases z;simp only[au]at p';obtain⟨d,_,rfl,p1,rfl⟩:=p';refine⟨_,_,?_,rfl,q.append (.cons p1 .nil)⟩
   delta Ev.fq;dsimp only;simp only[e]
   rw[mD (by rw[<-q.length];exact k)]
  .cases z
 .split at z
  .rename_i k;cases z;obtain⟨d,rfl,p1⟩:=p.one;simp only[br]at p1;obtain⟨n2,cs,rfl,e2,p1⟩:=p1;refine⟨_,_,?_,rfl,q.append p1⟩
   delta Ev.fq;dsimp only;simp only[e,e2]
   rw[mD (by rw[<-q.length,<-p1.length];exact k)]
  .cases z
 .simp only[gk]at p;subst p;split at z
  .rename_i x y;cases z;obtain⟨d,k1,k2⟩:=q.get y;refine⟨d,_,?_,k2,q.dropLast⟩
   delta Ev.fq;dsimp only;simp only[e]
   rw[<-q.length,k1]
  .cases z
 .have p':=p' rfl;simp only[au]at p';obtain⟨d1,_,rfl,p1,d2,_,rfl,p2,rfl⟩:=p';obtain⟨j,z1,z⟩:=Option.map_eq_some_iff.mp z;cases z;simp only[Rep]at p2;subst p2;refine⟨.aU,_,?_,rfl,q.set j p1⟩
  delta Ev.fq;dsimp only;simp only[e]
  rw[<-q.length,z1]
 .cases z
theorem bh.set(f:bh M B h S fr aj){i:Nat}(e:put fr i (.val v)=some af)(q:Rep h S v d):bh M B h S af (aj.set i (some d))/\(∀j,locked af j=locked fr j)/\∀j,locked fr j=true->(aj.set i (some d))[j]?=aj[j]?:=by
 have hx:af=fr.set i (some (.val v))/\locked fr i=false:=by
  unfold put at e;unfold locked;split at e
  .cases e
  .cases e
  .rename_i k1 k2;cases e;refine⟨rfl,?_⟩;cases z:fr[i]? with
   |none=>rfl
   |some o=>
    rcases o with _|s
    .rfl
    .cases s with
     |bor l=>exact absurd z (k1 l)
     |ro l=>exact absurd z (k2 l)
     |_=>rfl
 obtain⟨rfl,hk⟩:=hx;have lk:∀j,locked (fr.set i (some (.val v))) j=locked fr j:=λj=>by
  by_cases hj:i=j
  .subst hj;rw[hk];unfold locked;by_cases hl:i<fr.length
   .rw[WS hl];rfl
   .rw[aaw (by simpa using hl)]
  .unfold locked;rw[UJ hj]
 refine⟨⟨f.wS,f.wM,f.wB,by simp[f.len],λj o p y1 y2=>?_,λj k o o' m y1 y2 y3 y4 y5 y6=>?_⟩,lk,λj hj=>?_⟩
 .by_cases hj:i=j
  .subst hj;have hl:i<fr.length:=by have:=(List.getElem?_eq_some_iff.mp y1).1;simpa using this
   rw[WS hl]at y1;rw[WS (by rw[<-f.len];exact hl)]at y2;cases y1;cases y2;exact⟨d,rfl,q⟩
  .rw[UJ hj]at y1 y2;exact f.sl j o p y1 y2
 .have hn:∀(j:Nat) o,(fr.set i (some (.val v)))[j]?=some o->iL o=true->i≠j:=λj o w1 w2 w3=>by
   subst w3;have hl:i<fr.length:=by have:=(List.getElem?_eq_some_iff.mp w1).1;simpa using this
   rw[WS hl]at w1;cases w1;cases w2
  have n1:=hn j o y1 y3;have n2:=hn k o' y2 y4;rw[UJ n1]at y1 y5;rw[UJ n2]at y2 y6;exact f.inj j k o o' m y1 y2 y3 y4 y5 y6
 .have:i≠j:=λz=>by subst z;rw[hk]at hj;cases hj
  rw[UJ this]
theorem bh.cH:∀{is:List Nat}{vs:List V}{ds:List D}{fr af:Fr}{aj:Ev.Fr},bh M B h S fr aj->cH is vs fr=some af->au h S vs ds->∃bz,Ev.cH is ds aj=some bz/\bh M B h S af bz/\(∀j,locked af j=locked fr j)/\∀j,locked fr j=true->bz[j]?=aj[j]?
 |[],[],ds,fr,af,aj,f,e,q=>by
  simp[Pv.cH]at e;simp only[au]at q;subst e q;exact⟨aj,rfl,f,λ_=>rfl,λ_ _=>rfl⟩
 |[],_ :: _,_,_,_,_,_,e,_=>by simp[Pv.cH]at e
 |_ :: _,[],_,_,_,_,_,e,_=>by simp[Pv.cH]at e
 |i :: is,v :: vs,ds,fr,af,aj,f,e,q=>by
  simp only[Pv.cH,V4]at e;obtain⟨ao,e1,e2⟩:=e;simp only[au]at q;obtain⟨d,es,rfl,q1,q2⟩:=q;obtain⟨f2,l2,r2⟩:=f.set e1 q1;obtain⟨bz,a,f3,l3,r3⟩:=f2.cH e2 q2;exact⟨bz,a,f3,λj=>(l3 j).trans (l2 j),λj hj=>(r3 j (by rw[l2 j];exact hj)).trans (r2 j hj)⟩
theorem bh.bJ(f:bh M B h S fr aj){t:T}(e:bJ t v fr=some af)(q:Rep h S v d):∃bz,Ev.bJ t d aj=some bz/\bh M B h S af bz/\(∀j,locked af j=locked fr j)/\∀j,locked fr j=true->bz[j]?=aj[j]?:=by
 cases t with
 |one i=>exact⟨_,rfl,f.set e q⟩
 |many l=>
  cases v<;>simp only[Pv.bJ,reduceCtorEq]at e
  simp only[Rep]at q;obtain⟨ds,rfl,q⟩:=q;exact f.cH e q
theorem bh.undef(f:bh M B h S fr aj){t:T}(e:undef t fr=true):Ev.undef t aj=true:=by
 unfold Pv.undef at e;unfold Ev.undef;rw[List.all_eq_true]at e ⊢;intro i hi;have:=e i hi;cases z:fr[i]? with
 |none=>
  have:aj[i]?=none:=by
   rw[ack]at z ⊢;rw[<-f.len];exact z
  rw[this];rfl
 |some o=>
  obtain⟨p,e1,q⟩:=f.get z;rw[z]at this;rcases o with _|s
  .simp only[lT]at q;subst q;rw[e1];rfl
  .simp at this
def zJ{i:Nat}{o:Option Sl}(e:(rA fr)[i]?=some o):∃o0,fr[i]?=some o0/\o=o0.map Sl.read:=by
 unfold rA at e;rw[aaj]at e;cases z:fr[i]? with
 |none=>rw[z]at e;cases e
 |some o0=>rw[z]at e;cases e;exact⟨o0,rfl,rfl⟩
theorem bh.ro(f:bh M B h S fr aj):bh (λ_=>False) B h S (rA fr) aj:=by
 refine⟨λm y=>⟨(f.wS m y).1,id,(f.wS m y).2.2⟩,λm y=>y.elim,f.wB,by simp[rA,f.len],λi o p y1 y2=>?_,λi j o o' m y1 y2 y3 y4 y5 y6=>?_⟩
 .obtain⟨o0,z,rfl⟩:=zJ y1;have q:=f.sl i o0 p z y2;rcases o0 with _|s
  .exact q
  .cases s with
   |val v=>exact q
   |own l=>obtain⟨m,ds,a,b,c,d⟩:=q;exact⟨m,ds,a,id,c,d⟩
   |bor l=>obtain⟨m,ds,a,b,c,d⟩:=q;exact⟨m,ds,a,id,c,d⟩
   |ro l=>obtain⟨m,ds,a,b,c,d⟩:=q;exact⟨m,ds,a,id,c,d⟩
 .obtain⟨o0,z,rfl⟩:=zJ y1;rcases o0 with _|s
  .cases y3
  .cases s<;>cases y3
theorem ju:∀{ck:List (Nat×List D)},(∀q∈ck,bx h q.1=some q.2)->Ev.stays h ck=true
 |[],_=>rfl
 | (n,ds) :: r,q=>by
  simp only[Ev.stays,GY];refine⟨?_,ju λx hx=>q x (aam _ hx)⟩;rw[q (n,ds) (aaD ..)];exact Ev.AM _
def kE{n:Nat}{ds:List D}(q:bx h n=some ds)(k:h'[n]?=h[n]?):bx h' n=some ds:=by
 unfold bx at q ⊢;rw[k];exact q
def mh{n:Nat}{ds:List D}(q:bx h n=some ds):n<h.length:=by
 unfold bx at q;cases z:h[n]? with
 |none=>rw[z]at q;cases q
 |some o=>exact(List.getElem?_eq_some_iff.mp z).1
noncomputable def FY(h:Hh)(S:Nat->Prop):Option V->Option D->Prop
 |none,o=>o=none
 |some v,o=>∃d,o=some d/\Rep h S v d
theorem zK{f:V->Option (Option V)}{f':D->Hh->Ev.R (Option D)}{ck:List (Nat×List D)}{h0:Hh}{S0:Nat->Prop}(w0:∀m,S0 m->m<h0.length)(st:∀q∈ck,bx h0 q.1=some q.2)
  (turn:∀v o d h S,Al h0 S0 h S->f v=some o->Rep h S v d->∃o' h' S',f' d h=.ok o' h'/\FY h' S' o o'/\Al h S h' S') :
  ∀{vs:List V} {ds:List D} {rs:List V} {h:Hh} {S:Nat->Prop},Al h0 S0 h S->cK f vs=some rs->au h S vs ds->∃rs' h' S',Ev.cK f' ck ds h=.ok rs' h'/\au h' S' rs rs'/\Al h S h' S'
 |[],ds,rs,h,S,a,e,q=>by
  simp[cK]at e;simp only[au]at q;subst e q;refine⟨[],h,S,?_,.nil,.refl⟩;simp only[Ev.cK];rw[mD (ju λx hx=>kE (st x hx) (a.keep _ (mh (st x hx))))]
 |v :: vs,ds,rs,h,S,a,e,q=>by
  simp only[cK,V4]at e;obtain⟨o,e1,r,e2,e3⟩:=e;cases e3;simp only[au]at q;obtain⟨d,es,rfl,q1,q2⟩:=q;have w:∀m,S m->m<h.length:=λm z=>by
   rcases a.new m z with z|z
   .exact xT (w0 m z) a.len
   .exact z.2
  obtain⟨o',h1,S1,t1,t2,t3⟩:=turn v o d h S a e1 q1;obtain⟨rs',h2,S2,u1,u2,u3⟩:=zK w0 st turn (a.trans t3) e2 (q2.mono (λm z=>t3.keep m (w m z)) t3.sub);have w1:∀m,S1 m->m<h1.length:=λm z=>by
   rcases t3.new m z with z|z
   .exact xT (w m z) t3.len
   .exact z.2
  refine⟨o'.toList++rs',h2,S2,?_,?_,t3.trans u3⟩
  .simp only[Ev.cK];rw[mD (ju λx hx=>kE (st x hx) (a.keep _ (mh (st x hx)))),t1,Ev.ak,u1,Ev.ak]
  .cases o with
   |none=>simp only[FY]at t2;subst t2;simpa using u2
   |some v'=>
    simp only[FY]at t2;obtain⟨d',rfl,t2⟩:=t2;exact .cons (t2.mono (λm z=>u3.keep m (w1 m z)) u3.sub) u2
end
noncomputable def jZ(k:Bool)(h:Hh)(S:Nat->Prop)(v:List V)(d:List D):Prop:=if k=true then gk h S v d else au h S v d
inductive OC(P':Ev.aL)(e:E)(k:Bool)(v:V)(M B:Nat->Prop)(h:Hh)(S:Nat->Prop)(fr:Fr)(aj:Ev.Fr)(af:Fr):Prop
 |mk (d:D) (h':Hh) (S':Nat->Prop) (c0:Ev.ev P' e aj h=.ok d h') (c1:gH k h' S' v d) (c2:Out M B (bQ e) h S fr aj h' S' af):OC P' e k v M B h S fr aj af
inductive OD(P':Ev.aL)(e:E)(b:Bool)(M B:Nat->Prop)(h:Hh)(S:Nat->Prop)(fr:Fr)(aj:Ev.Fr)(af:Fr):Prop
 |mk (h':Hh) (S':Nat->Prop) (c0:Ev.aH P' e aj h=.ok b h') (c1:Out M B (bQ e) h S fr aj h' S' af):OD P' e b M B h S fr aj af
inductive OE(P':Ev.aL)(e:Es)(k:Bool)(v:List V)(M B:Nat->Prop)(h:Hh)(S:Nat->Prop)(fr:Fr)(aj:Ev.Fr)(af:Fr):Prop
 |mk (d:List D) (h':Hh) (S':Nat->Prop) (c0:Ev.bU P' e aj h=.ok d h') (c1:jZ k h' S' v d) (c2:Out M B (gb e) h S fr aj h' S' af):OE P' e k v M B h S fr aj af
inductive OF(P':Ev.aL)(e:Es)(v:List (Nat ⊕ V))(M B:Nat->Prop)(h:Hh)(S:Nat->Prop)(fr:Fr)(aj:Ev.Fr)(af:Fr):Prop
 |mk (d:List D) (h':Hh) (S':Nat->Prop) (c0:Ev.bU P' e aj h=.ok d h') (c1:uW h' S' aj v d) (c2:Out M B (gb e) h S fr aj h' S' af):OF P' e v M B h S fr aj af
inductive OG(P':Ev.aL)(e:Eo)(v:Option Int)(M B:Nat->Prop)(h:Hh)(S:Nat->Prop)(fr:Fr)(aj:Ev.Fr)(af:Fr):Prop
 |mk (h':Hh) (S':Nat->Prop) (c0:Ev.gc P' e aj h=.ok v h') (c1:Out M B (lK e) h S fr aj h' S' af):OG P' e v M B h S fr aj af
inductive OH(P':Ev.aL)(e:Eo)(v:Bool)(M B:Nat->Prop)(h:Hh)(S:Nat->Prop)(fr:Fr)(aj:Ev.Fr)(af:Fr):Prop
 |mk (h':Hh) (S':Nat->Prop) (c0:Ev.ja P' e aj h=.ok v h') (c1:Out M B (lK e) h S fr aj h' S' af):OH P' e v M B h S fr aj af
inductive OI(P':Ev.aL)(e:It)(k:Bool)(v:List V)(M B:Nat->Prop)(h:Hh)(S:Nat->Prop)(fr:Fr)(aj:Ev.Fr)(af:Fr):Prop
 |mk (s:Ev.Src) (h':Hh) (S':Nat->Prop) (c0:Ev.cy P' e aj h=.ok s h') (c1:au h' S' v s.1) (c2:∀q∈s.2,bx h' q.1=some q.2/\(k=false->¬ M q.1)) (c3:Out M B (FO e) h S fr aj h' S' af):OI P' e k v M B h S fr aj af
section
variable(P:aL)(P':Ev.aL)
noncomputable def bB(e:E):Prop:=∀{k:Bool} {fr:Fr} {v:V} {af:Fr} {M B:Nat->Prop} {h:Hh} {S:Nat->Prop} {aj:Ev.Fr},ev P k e fr=.ok v af->bh M B h S fr aj->OC P' e k v M B h S fr aj af
noncomputable def iu(e:E):Prop:=∀{fr:Fr} {b:Bool} {af:Fr} {M B:Nat->Prop} {h:Hh} {S:Nat->Prop} {aj:Ev.Fr},aH P e fr=.ok b af->bh M B h S fr aj->OD P' e b M B h S fr aj af
noncomputable def j0(e:Es):Prop:=∀{k:Bool} {fr:Fr} {v:List V} {af:Fr} {M B:Nat->Prop} {h:Hh} {S:Nat->Prop} {aj:Ev.Fr},bU P k e fr=.ok v af->bh M B h S fr aj->OE P' e k v M B h S fr aj af
noncomputable def rF(e:Es):Prop:=∀{fr:Fr} {v:List (Nat ⊕ V)} {af:Fr} {M B:Nat->Prop} {h:Hh} {S:Nat->Prop} {aj:Ev.Fr},er P e fr=.ok v af->bh M B h S fr aj->OF P' e v M B h S fr aj af
noncomputable def rG(e:Eo):Prop:=∀{fr:Fr} {v:Option Int} {af:Fr} {M B:Nat->Prop} {h:Hh} {S:Nat->Prop} {aj:Ev.Fr},gc P e fr=.ok v af->bh M B h S fr aj->OG P' e v M B h S fr aj af
noncomputable def vj(e:Eo):Prop:=∀{fr:Fr} {v:Bool} {af:Fr} {M B:Nat->Prop} {h:Hh} {S:Nat->Prop} {aj:Ev.Fr},ja P e fr=.ok v af->bh M B h S fr aj->OH P' e v M B h S fr aj af
noncomputable def mU(e:It):Prop:=∀{k:Bool} {fr:Fr} {v:List V} {af:Fr} {M B:Nat->Prop} {h:Hh} {S:Nat->Prop} {aj:Ev.Fr},cy P k e fr=.ok v af->bh M B h S fr aj->OI P' e k v M B h S fr aj af
end
section
variable{P:aL}{P':Ev.aL}{a b e tt:E}{es:Es}{lo hi:Eo}{it:It}
def OJ{d:D}:bB P P' (.c d):=λz f=>by
 simp only[ev]at z;replace z:=aM z;obtain⟨z,y0⟩:=z;subst y0;exact⟨d,_,_,by simp only[Ev.ev],.of (nW z),.refl f⟩
def OL{i:Nat}:bB P P' (.v i):=λz f=>by
 simp only[ev]at z;replace z:=aM z;obtain⟨z,y0⟩:=z;subst y0;obtain⟨d,e1,q⟩:=KN z f;exact⟨d,_,_,by simp only[Ev.ev,e1,Ev.dh],q,.refl f⟩
def jZ.n{h:Hh}{S:Nat->Prop}{v:List V}{d:List D}(q:jZ false h S v d):au h S v d:=by simpa[jZ]using q
theorem au.tl{h:Hh}{S:Nat->Prop}:∀{v:List V}{d:List D},au h S v d->gk h S v d
 |[],_,q=>q
 |_ :: _,_,⟨d,es,a,b,q⟩=>⟨d,es,a,b.top,q.tl⟩
def jZ.t{k:Bool}{h:Hh}{S:Nat->Prop}{v:List V}{d:List D}(q:jZ k h S v d):gk h S v d:=by
 unfold jZ at q;split at q
 .exact q
 .exact q.tl
def Dv(is:j0 P P' es):bB P P' (.tup es):=λz f=>by
 simp only[ev]at z;obtain⟨ds,ao,z1,z2⟩:=ah z;replace z2:=aM z2;obtain⟨z2,y0⟩:=z2;subst y0;obtain⟨ds',h',S',e1,q,o⟩:=is z1 f;unfold gD at z2;split at z2
 .rename_i hk;cases z2;refine⟨.tup ds',h',S',?_,.of ⟨ds',rfl,q.n⟩,o⟩;simp only[Ev.ev,e1,Ev.ak];rw[mD (by rw[<-q.n.length];exact hk)]
 .cases z2
def Dw(is:j0 P P' es):bB P P' (.lst es):=λz f=>by
 simp only[ev]at z;obtain⟨ds,ao,z1,z2⟩:=ah z;replace z2:=aM z2;obtain⟨z2,y0⟩:=z2;subst y0;obtain⟨ds',h',S',e1,q,o⟩:=is z1 f;obtain⟨r,h2,S2,a1,a2,a3⟩:=kD o.f.w z2 q.n;exact⟨r,h2,S2,by simp only[Ev.ev,e1,Ev.ak,a1],.of a2,o.al a3⟩
def vm{a:E}{aj:Ev.Fr}{h h1:Hh}{d:D}(e:Ev.ev P' a aj h=.ok d h1):∀i,a=.v i->aj[i]?.join=some d:=λi hi=>by
 subst hi;simp only[Ev.ev]at e;exact(Ev.aM e).1
def two(ia:bB P P' a)(ib:bB P P' b){α:Type}{X:V->V->Fr->R α}{u:α}{fr bY:Fr}{M B:Nat->Prop}{h:Hh}{S:Nat->Prop}{aj:Ev.Fr}
  (z:((ev P (kf a (bQ b)) a fr).bind λx af=>(ev P true b af).bind λy ao=>X x y ao)=.ok u bY) (f:bh M B h S fr aj) :
  ∃x y d e h2 S2 ao,(∀{β:Type} (g:D->D->Hh->Ev.R β),((Ev.ev P' a aj h).bind λx h1=>(Ev.ev P' b aj h1).bind λy h2=>g x y h2)=g d e h2)/\X x y ao=.ok u bY/\br h2 S2 x d/\br h2 S2 y e/\Out M B (bQ a++bQ b) h S fr aj h2 S2 ao:=by
 replace z:=ah z;obtain⟨x,af,z1,z⟩:=z;replace z:=ah z;obtain⟨y,ao,z2,z⟩:=z;obtain⟨d,h1,S1,e1,q1,o1⟩:=ia z1 f;obtain⟨e,h2,S2,e2,q2,o2⟩:=ib z2 o1.f;exact⟨x,y,d,e,h2,S2,ao,λg=>by rw[e1,Ev.ak,e2,Ev.ak],z,(q1.tr o1.f o2.tr id (vm e1)).t,q2.t,o1.trans o2⟩
def Dy{o:bw}(ia:bB P P' a)(ib:bB P P' b):bB P P' (.bin o a b):=λz f=>by
 simp only[ev]at z;replace z:=two ia ib z f;obtain⟨x,y,d,e,h2,S2,ao,k,z,q1,q2,ou⟩:=z;replace z:=aM z;obtain⟨z,y0⟩:=z;subst y0;obtain⟨r,h3,S3,a1,a2,a3⟩:=Ds ou.f.w z q1 q2;exact⟨r,h3,S3,by simp only[Ev.ev];rw[k];exact a1,.of a2,ou.al a3⟩
def zL{h:Hh}{S:Nat->Prop}{x y v:V}{d e:D}(z:Bm x y=some v)(p:br h S x d)(q:br h S y e):∃la lb n ds m es,x=.lst la/\y=.lst lb/\eN (la++lb)=some v/\d=.ref n/\e=.ref m/\h[n]?=some (.lst ds)/\h[m]?=some (.lst es)/\au h S la ds/\au h S lb es:=by
 cases x<;>first|exact nn z | (cases y<;>first|exact nn z|skip)
 delta Bm at z;dsimp only at z;simp only[br,Rep]at p q
 obtain⟨n,ds,rfl,a,p⟩:=p;obtain⟨m,es,rfl,b,q⟩:=q;exact⟨_,_,n,ds,m,es,rfl,rfl,z,rfl,rfl,a,b,p,q⟩
def zM(ia:bB P P' a)(ib:bB P P' b):bB P P' (.fh a b):=λz f=>by
 simp only[ev]at z;replace z:=two ia ib z f;obtain⟨x,y,d,e,h2,S2,ao,k,z,q1,q2,ou⟩:=z;replace z:=aM z;obtain⟨z,y0⟩:=z;subst y0;obtain⟨la,lb,n,ds,m,es,rfl,rfl,zz,rfl,rfl,_⟩:=zL z q1 q2;obtain⟨r,h3,S3,a1,a2,a3⟩:=Ds (o:=.add) (x:=.lst la) (y:=.lst lb) ou.f.w zz q1 q2;exact⟨r,h3,S3,by simp only[Ev.ev];rw[k];exact a1,.of a2,ou.al a3⟩
def Dz{o:bq}(ia:bB P P' a)(ib:bB P P' b):bB P P' (.cmp o a b):=λz f=>by
 simp only[ev]at z;replace z:=two ia ib z f;obtain⟨x,y,d,e,h2,S2,ao,k,z,q1,q2,ou⟩:=z;replace z:=aM z;obtain⟨z,y0⟩:=z;subst y0;simp only[gV]at z;obtain⟨b,z,rfl⟩:=z;exact⟨.bl b,h2,S2,by simp only[Ev.ev];rw[k,Ot z q1.u q2.u];rfl,.of rfl,ou⟩
def Ik(ia:bB P P' a)(ib:bB P P' b):bB P P' (.ix a b):=λz f=>by
 simp only[ev]at z;replace z:=two ia ib z f;obtain⟨x,y,d,e,h2,S2,ao,k,z,q1,q2,ou⟩:=z;replace z:=aM z;obtain⟨z,y0⟩:=z;subst y0;obtain⟨r,a1,a2⟩:=Ou z q1 q2;exact⟨r,h2,S2,by simp only[Ev.ev];rw[k,a1];rfl,.of a2,ou⟩
def KO{x y v:V}{d e:D}{h:Hh}{S:Nat->Prop}(z:Bg x y=some v)(p:br h S x d)(q:br h S y e):∃r,Ev.vU d e h=some r/\Rep h S v r:=by
 unfold Bg at z;split at z
 .simp only[br,Rep]at p q;obtain⟨n,rfl,_,p⟩:=p;subst q;obtain⟨s,e1,rfl⟩:=Option.map_eq_some_iff.mp z;exact⟨.str s,by simp[Ev.vU,p,e1],rfl⟩
 .cases z
def DA(ia:bB P P' a)(ib:bB P P' b):bB P P' (.ku a b):=λz f=>by
 simp only[ev]at z;replace z:=two ia ib z f;obtain⟨x,y,d,e,h2,S2,ao,k,z,q1,q2,ou⟩:=z;replace z:=aM z;obtain⟨z,y0⟩:=z;subst y0;obtain⟨r,a1,a2⟩:=KO z q1 q2;exact⟨r,h2,S2,by simp only[Ev.ev];rw[k,a1];rfl,.of a2,ou⟩
def DB{kvs:List (List Nat×List Nat)}:bB P P' (.jT kvs):=λ{k fr v af M B h S aj} z f=>by
 simp only[ev]at z;split at z
 .cases z
 .rename_i hk;cases z;exact⟨.ref h.length,h++[.dw kvs],λm=>S m\/m=h.length,by simp only[Ev.ev];rw[Yv hk],.of ⟨h.length,rfl,.inr rfl,by simp⟩,(Out.refl f).al (Al.snoc _)⟩
def RS(ia:bB P P' a):bB P P' (.nt a):=λz f=>by
 simp only[ev]at z;replace z:=ah z;obtain⟨x,af,z1,z⟩:=z;obtain⟨d,h1,S1,e1,q1,o1⟩:=ia z1 f;cases x<;>simp only[reduceCtorEq]at z
 cases z;have q:=q1.t;simp only[br,Rep]at q;subst q;exact⟨_,h1,S1,by simp only[Ev.ev,e1,Ev.ak],.of rfl,o1⟩
def DC(ia:bB P P' a):bB P P' (.neg a):=λz f=>by
 simp only[ev]at z;replace z:=ah z;obtain⟨x,af,z1,z⟩:=z;obtain⟨d,h1,S1,e1,q1,o1⟩:=ia z1 f;cases x<;>simp only[reduceCtorEq]at z
 cases z;have q:=q1.t;simp only[br,Rep]at q;subst q;exact⟨_,h1,S1,by simp only[Ev.ev,e1,Ev.ak],.of rfl,o1⟩
def RT(ia:bB P P' a)(ib:bB P P' b):bB P P' (.an a b):=λz f=>by
 simp only[ev]at z;replace z:=ah z;obtain⟨x,af,z1,z⟩:=z;obtain⟨d,h1,S1,e1,q1,o1⟩:=ia z1 f;cases x<;>try (cases z;done)
 rename_i k;have q:=q1.t;simp only[br,Rep]at q;subst q;cases k with
 |true=>
  try simp only at z
  obtain⟨d,h2,S2,e2,q2,o2⟩:=ib z o1.f;exact⟨d,h2,S2,by simp only[Ev.ev,e1,Ev.ak,e2],q2,o1.trans o2⟩
 |false=>
  try simp only at z
  cases z;exact⟨_,h1,S1,by simp only[Ev.ev,e1,Ev.ak],.of rfl,o1.weak (by simp only[bQ];intro i hi;simp[hi])⟩
def OM(ia:bB P P' a)(ib:bB P P' b):bB P P' (.orr a b):=λz f=>by
 simp only[ev]at z;replace z:=ah z;obtain⟨x,af,z1,z⟩:=z;obtain⟨d,h1,S1,e1,q1,o1⟩:=ia z1 f;cases x<;>try (cases z;done)
 rename_i k;have q:=q1.t;simp only[br,Rep]at q;subst q;cases k with
 |false=>
  try simp only at z
  obtain⟨d,h2,S2,e2,q2,o2⟩:=ib z o1.f;exact⟨d,h2,S2,by simp only[Ev.ev,e1,Ev.ak,e2],q2,o1.trans o2⟩
 |true=>
  try simp only at z
  cases z;exact⟨_,h1,S1,by simp only[Ev.ev,e1,Ev.ak],.of rfl,o1.weak (by simp only[bQ];intro i hi;simp[hi])⟩
def DE(it:iu P P' tt)(ia:bB P P' a)(ib:bB P P' b):bB P P' (.iX tt a b):=λz f=>by
 simp only[ev]at z;replace z:=ah z;obtain⟨k,af,z1,z⟩:=z;obtain⟨h1,S1,e1,o1⟩:=it z1 f;cases k with
 |true=>
  simp only[aan]at z;obtain⟨d,h2,S2,e2,q2,o2⟩:=ia z o1.f;exact⟨d,h2,S2,by simp only[Ev.ev,e1,Ev.ak,aan,e2],q2,(o1.trans o2).weak (by simp only[bQ];intro i hi;simp at hi ⊢;rcases hi with hi|hi<;>simp[hi])⟩
 |false=>
  simp only[aap,aa2]at z;obtain⟨d,h2,S2,e2,q2,o2⟩:=ib z o1.f;exact⟨d,h2,S2,by simp only[Ev.ev,e1,Ev.ak];rw[Yv (by decide)];exact e2,q2,(o1.trans o2).weak (by simp only[bQ];intro i hi;simp at hi ⊢;rcases hi with hi|hi<;>simp[hi])⟩
def Il(ia:bB P P' a)(il:rG P P' lo)(ih:rG P P' hi):bB P P' (.sl a lo hi):=λz f=>by
 simp only[ev]at z;replace z:=ah z;obtain⟨x,af,z1,z⟩:=z;replace z:=ah z;obtain⟨l,ao,z2,z⟩:=z;replace z:=ah z;obtain⟨u,bR,z3,z⟩:=z;replace z:=aM z;obtain⟨z,y0⟩:=z;subst y0;obtain⟨d,h1,S1,e1,q1,o1⟩:=ia z1 f;obtain⟨h2,S2,e2,o2⟩:=il z2 o1.f;obtain⟨h3,S3,e3,o3⟩:=ih z3 o2.f;have q:=(q1.tr o1.f (o2.trans o3).tr id (vm e1)).t;obtain⟨r,h4,S4,a1,a2,a3⟩:=Ov o3.f.w z q;exact⟨r,h4,S4,by simp only[Ev.ev,e1,Ev.ak,e2,e3,a1],.of a2,(o1.trans (o2.trans o3)).al a3⟩
theorem nZ:∀{es:Es}{fr af:Fr}{as:List (Nat ⊕ V)},er P es fr=.ok as af->∀i∈bK as,i∈kj es
 |.nil,_,_,_,z=>by simp only[er]at z;cases z;simp[bK]
 |.cons e es,fr,af,as,z=>by
  simp only[er]at z;cases y:gG fr e with
  |some i=>
   rw[y]at z;simp only at z;replace z:=ah z;obtain⟨xs,bR,z2,z⟩:=z;cases z;have hy:e=.v i:=by
    cases e<;>simp only[gG,reduceCtorEq]at y
    split at y
    .cases y;rfl
    .cases y
   subst hy;intro j hj;simp only[bK,aaY]at hj;simp only[kj,aaY];exact hj.imp id λhj=>nZ z2 j hj
  |none=>
   rw[y]at z;simp only at z;replace z:=ah z;obtain⟨x,ao,z1,z⟩:=z;replace z:=ah z;obtain⟨xs,bR,z2,z⟩:=z;cases z;intro j hj;simp only[bK]at hj;have:=nZ z2 j hj;cases e<;>simp only[kj]<;>first|exact this|exact aam _ this
def Im(HP:pe P P'){g:Nat}(is:rF P P' es):bB P P' (.cl g es):=λz f=>by
 simp only[ev]at z;replace z:=ah z;obtain⟨as,af,z1,z⟩:=z;obtain⟨ds,h1,S1,e1,q1,o1⟩:=is z1 f;obtain⟨d,h2,S2,e2,q2,o2⟩:=qu HP z o1.f q1;exact⟨d,h2,S2,by simp only[Ev.ev,e1,Ev.ak,e2],.of q2,(o1.trans o2).weak (by
  simp only[bQ];intro i hi;rcases List.mem_append.mp hi with hi|hi
  .exact List.mem_append.mpr (.inl hi)
  .exact List.mem_append.mpr (.inr (nZ z1 i hi)))⟩
def Io{g:BI}(is:j0 P P' es):bB P P' (.bi g es):=λz f=>by
 simp only[ev]at z;replace z:=ah z;obtain⟨as,af,z1,z⟩:=z;replace z:=aM z;obtain⟨z,y0⟩:=z;subst y0;obtain⟨ds,h1,S1,e1,q1,o1⟩:=is z1 f;obtain⟨r,h4,S4,a1,a2,a3⟩:=Ox o1.f.w z q1.t;exact⟨r,h4,S4,by simp only[Ev.ev,e1,Ev.ak,a1],.of a2,o1.al a3⟩
def zN{kvs:List (D×D)}(ia:bB P P' a):bB P P' (.gY kvs a):=λz f=>by
 simp only[ev]at z;replace z:=ah z;obtain⟨x,af,z1,z⟩:=z;replace z:=aM z;obtain⟨z,y0⟩:=z;subst y0;obtain⟨d,h1,S1,e1,q1,o1⟩:=ia z1 f;obtain⟨r,a1,a2⟩:=FQ (S:=S1) q1.t.u z;exact⟨r,h1,S1,by simp only[Ev.ev,e1,Ev.ak,a1,Ev.dh],.of a2,o1⟩
def DF(ia:bB P P' a):bB P P' (.jS a):=λz f=>by
 simp only[ev]at z;replace z:=ah z;obtain⟨x,af,z1,z⟩:=z;replace z:=aM z;obtain⟨z,y0⟩:=z;subst y0;obtain⟨d,h1,S1,e1,q1,o1⟩:=ia z1 f;obtain⟨r,a1,a2⟩:=KI z q1.t;exact⟨r,h1,S1,by simp only[Ev.ev,e1,Ev.ak,a1],.of a2,o1⟩
def DG(ia:bB P P' a):bB P P' (.gy a):=λz f=>by
 simp only[ev]at z;replace z:=ah z;obtain⟨x,af,z1,z⟩:=z;replace z:=aM z;obtain⟨z,y0⟩:=z;subst y0;obtain⟨d,h1,S1,e1,q1,o1⟩:=ia z1 f;obtain⟨r,a1,a2⟩:=Ow z q1.t;exact⟨r,h1,S1,by simp only[Ev.ev,e1,Ev.ak,a1],.of a2,o1⟩
def Ip{m:ME}{o:E}(io:bB P P' o)(is:j0 P P' es):bB P P' (.me m o es):=λ{k fr v af M B h S aj} z f=>by
 simp only[ev]at z;by_cases hm:jf m=true
 .rw[mD hm]at z;cases y:gG fr o with
  |none=>rw[y]at z;cases z
  |some i=>
  rw[y]at z;try simp only at z
  replace z:=ah z;obtain⟨as,ao,z1,z⟩:=z;have hy:o=.v i/\∃s,lent fr i=some s:=by
   cases o<;>simp only[gG,reduceCtorEq]at y
   rename_i j;split at y
   .rename_i hs;cases y;exact⟨rfl,Option.isSome_iff_exists.mp hs⟩
   .cases y
  obtain⟨rfl,s,hs⟩:=hy;obtain⟨n,cs,_,_,_,w2,w3,_,_⟩:=iM hs f;obtain⟨ds,h1,S1,e1,q1,o1⟩:=is z1 f;have hr:Ev.qX m (.ref n) h=true:=by cases m<;>simp[jf]at hm<;>simp[Ev.qX,jh w3]
  have hap:zA m=false->au h1 S1 as ds:=λhh=>by rw[hh]at q1;exact q1.n
  have fin:∀s l l',ao[i]?=some (some s)->iL (some s)=true->(∃m' cs',aj[i]?=some (some (.ref m'))/\h1[m']?=some (.lst cs')/\au h1 S1 l cs')->kC m l as=some (v,l')->af=ao.set i (some (s.with l'))->
    OC P' (.me m (.v i) es) k v M B h S fr aj af:=by
   intro s l l' k1 k2 ⟨m',cs',k3,k4,k5⟩ k6 k7;rw[w2]at k3;cases k3;have mn:=o1.f.mM k1 k2 w2;obtain⟨r,ds',a1,a2,a3⟩:=OB k6 k4 k5 q1.t hap λk z y=>(o1.f.wS k z).2.1 (y▸mn);have fw:=o1.f.write (l':=l') k1 k2 w2 a3;subst k7;refine⟨r,_,S1,?_,.of (a2.mono (λm z=>lZ λy=>(o1.f.wS m z).2.1 (y▸mn)) λ_ z=>z),fw,?_,λj=>?_⟩
   .simp only[Ev.ev,w2,Option.join,Ev.dh,Ev.ak,hr,aan,e1];simp only[Option.bind,id,Ev.dh,Ev.ak,hr,aan,e1];exact a1
   .refine⟨by simpa using o1.tr.len,λm y1 y2=>?_,o1.tr.sub,λm y=>by simpa using o1.tr.new m y⟩;have y3:¬ Xs M aj (gb es) m:=λz=>y2 (Xs.mono (by simp only[bQ];intro i hi;simp[hi]) z);have y4:m≠n:=λz=>y2 ⟨z▸mn,i,by simp[bQ,UB,hm],by rw[z];exact w2⟩;rw[lZ (λ(z:n=m)=>y4 z.symm)];exact o1.tr.keep m y1 y3
   .rw[<-o1.lk j];unfold locked;by_cases hj:i=j
    .subst hj;rw[WS (List.getElem?_eq_some_iff.mp k1).1,k1];exact zH
    .rw[UJ hj]
  split at z
  .rename_i l k1;have old:=o1.f.get k1;obtain⟨p,k2,m',cs',rfl,_,k4,k5⟩:=old;split at z
   .rename_i v' l' k6;cases z;exact fin _ l l' k1 rfl ⟨m',cs',k2,k4,k5⟩ k6 rfl
   .cases z
  .rename_i l k1;have old:=o1.f.get k1;obtain⟨p,k2,m',cs',rfl,_,k4,k5⟩:=old;split at z
   .rename_i v' l' k6;cases z;exact fin _ l l' k1 rfl ⟨m',cs',k2,k4,k5⟩ k6 rfl
   .cases z
  .cases z
 .rw[Yv hm]at z;replace z:=ah z;obtain⟨x,ao,z1,z⟩:=z;replace z:=ah z;obtain⟨as,bR,z2,z⟩:=z;replace z:=aM z;obtain⟨z,y0⟩:=z;subst y0;obtain⟨d,h1,S1,e1,q1,o1⟩:=io z1 f;obtain⟨ds,h2,S2,e2,q2,o2⟩:=is z2 o1.f;have hm':jf m=false:=by simpa using hm
  have Iq:=(q1.tr o1.f o2.tr id (vm e1)).t;obtain⟨a1,r,a2,a3⟩:=Oz z hm' Iq q2.t;have hr:Ev.qX m d h1=true:=by
   unfold fq at z;split at z
   .have:=q1.t;simp only[br,Rep]at this;subst this;rfl
   .cases z
  exact⟨r,h2,S2,by simp only[Ev.ev,e1,Ev.ak,hr,aan,e2,a2],.of a3,(o1.trans o2).weak (by simp only[bQ];intro i hi;simp at hi ⊢;rcases hi with hi|hi<;>simp[hi])⟩
def wZ{elt:E}{t:T}{cond:Eo}(ii:mU P P' it)(ic:vj P P' cond)(ie:bB P P' elt):bB P P' (.comp elt t it cond):=λz f=>by
 simp only[ev]at z;replace z:=ah z;obtain⟨vs,ao,z1,z⟩:=z;split at z
 case isFalse=>cases z
 rename_i hu;replace z:=aM z;obtain⟨z,y0⟩:=z;subst y0;simp only[V4]at z;obtain⟨rs,z2,z3⟩:=z;obtain⟨s,h1,S1,e1,q1,q2,o1⟩:=ii z1 f;have Yj:=o1.f.ro;obtain⟨rs',h2,S2,c1,c2,c3⟩:=zK (f':=λd h2=>match Ev.bJ t d _ with
    |none=>.bad
    |some ao=>(Ev.ja P' cond ao h2).bind λk h3=>if k then (Ev.ev P' elt ao h3).bind λx h4=>.ok (some x) h4 else .ok none h3) (ck:=s.2) o1.f.w (λq hq=>(q2 q hq).1) (λv o d h S al y q=>by
  split at y
  .cases y
  .rename_i bR y1;obtain⟨iD,b1,b2,_,_⟩:=(Yj.al al).bJ y1 q;rw[b1];split at y
   .rename_i c jV y2;obtain⟨h3,S3,c1,oc⟩:=ic y2 b2;have ON:Al h S h3 S3:=oc.tr.al λm z=>z.1;split at y
    .rename_i hc;subst hc;split at y
     .rename_i x uu y3;cases y;obtain⟨d',h4,S4,d1,d2,od⟩:=ie y3 (b2.al ON);refine⟨some d',h4,S4,?_,⟨d',rfl,d2.n⟩,ON.trans (od.tr.al λm z=>z.1)⟩;simp only[c1,Ev.ak,aan,d1]
     .cases y
    .rename_i hc;cases y;refine⟨none,h3,S3,?_,rfl,ON⟩;simp only[c1,Ev.ak];rw[Yv hc]
   .cases y) Al.refl z2 q1
 obtain⟨r,h4,S4,a1,a2,a3⟩:=kD (o1.f.al c3).w z3 c2;refine⟨r,h4,S4,?_,.of a2,(o1.al c3).al a3⟩;simp only[Ev.ev,e1,Ev.ak];rw[mD (o1.f.undef hu)];refine Eq.trans (aab (λq:Ev.R (List D)=>q.bind λds h2=>Ev.alloc ds h2) c1) ?_;simp only[Ev.ak,a1]
def DH(ii:mU P P' it):bB P P' (.gU it):=λz f=>by
 simp only[ev]at z;replace z:=ah z;obtain⟨vs,ao,z1,z⟩:=z;replace z:=aM z;obtain⟨z,y0⟩:=z;subst y0;obtain⟨s,h1,S1,e1,q1,q2,o1⟩:=ii z1 f;obtain⟨r,h4,S4,a1,a2,a3⟩:=kD o1.f.w z q1;exact⟨r,h4,S4,by simp only[Ev.ev,e1,Ev.ak,a1],.of a2,o1.al a3⟩
def OO:j0 P P' .nil:=λ{k fr v af M B h S aj} z f=>by
 simp only[bU]at z;cases z;refine⟨[],_,_,by simp only[Ev.bU],?_,.refl f⟩;unfold jZ;split<;>rfl
def KP(ie:bB P P' e)(is:j0 P P' es):j0 P P' (.cons e es):=λ{k fr v af M B h S aj} z f=>by
 simp only[bU]at z;replace z:=ah z;obtain⟨x,ao,z1,z⟩:=z;replace z:=ah z;obtain⟨xs,bR,z2,z⟩:=z;cases z;obtain⟨d,h1,S1,e1,q1,o1⟩:=ie z1 f;obtain⟨ds,h2,S2,e2,q2,o2⟩:=is z2 o1.f;have Iq:=q1.tr (a:=e) o1.f o2.tr (by intro z;simp at z;exact z.2) (vm e1);refine⟨d :: ds,h2,S2,by simp only[Ev.bU,e1,Ev.ak,e2],?_,o1.trans o2⟩;unfold jZ at q2 ⊢;cases k with
 |true=>simp only[aan]at q2 ⊢;exact⟨d,ds,rfl,Iq.t,q2⟩
 |false=>
  simp only[aap,aa2]at q2 ⊢;exact .cons (by simpa[gH]using Iq) q2
def KQ:rF P P' .nil:=λz f=>by
 simp only[er]at z;cases z;exact⟨[],_,_,by simp only[Ev.bU],rfl,.refl f⟩
def FZ(ie:bB P P' e)(is:rF P P' es):rF P P' (.cons e es):=λ{fr v af M B h S aj} z f=>by
 simp only[er]at z;cases y:gG fr e with
 |some i=>
  rw[y]at z;try simp only at z
  replace z:=ah z;obtain⟨xs,bR,z2,z⟩:=z;cases z;have hy:e=.v i/\∃s,lent fr i=some s:=by
   cases e<;>simp only[gG,reduceCtorEq]at y
   rename_i j;split at y
   .rename_i hs;cases y;exact⟨rfl,Option.isSome_iff_exists.mp hs⟩
   .cases y
  obtain⟨rfl,s,hs⟩:=hy;obtain⟨n,cs,_,_,_,w2,w3,_,_⟩:=iM hs f;obtain⟨ds,h2,S2,e2,q2,o2⟩:=is z2 f;refine⟨.ref n :: ds,h2,S2,?_,⟨_,_,rfl,w2,q2⟩,o2.weak (by simp only[gb,bQ];intro i hi;simpa using hi)⟩;simp only[Ev.bU,Ev.ev,w2,Option.join,Option.bind,id,Ev.dh,Ev.ak,e2]
 |none=>
  rw[y]at z;try simp only at z
  replace z:=ah z;obtain⟨x,ao,z1,z⟩:=z;replace z:=ah z;obtain⟨xs,bR,z2,z⟩:=z;cases z;obtain⟨d,h1,S1,e1,q1,o1⟩:=ie z1 f;obtain⟨ds,h2,S2,e2,q2,o2⟩:=is z2 o1.f;exact⟨d :: ds,h2,S2,by simp only[Ev.bU,e1,Ev.ak,e2],⟨_,_,rfl,q1.n.tr o1.f o2.tr,q2⟩,o1.trans o2⟩
def RU:rG P P' .no:=λz f=>by
 simp only[gc]at z;cases z;exact⟨_,_,by simp only[Ev.gc],.refl f⟩
def OP(ie:bB P P' e):rG P P' (.yes e):=λz f=>by
 simp only[gc]at z;replace z:=ah z;obtain⟨x,ao,z1,z⟩:=z;replace z:=aM z;obtain⟨z,y0⟩:=z;subst y0;obtain⟨d,h1,S1,e1,q1,o1⟩:=ie z1 f;cases x<;>simp[intOf]at z
 subst z;have q:=q1.t;simp only[br,Rep]at q;subst q;exact⟨h1,S1,by simp only[Ev.gc,e1,Ev.ak];rfl,o1⟩
def OQ:vj P P' .no:=λz f=>by
 simp only[ja]at z;cases z;exact⟨_,_,by simp only[Ev.ja],.refl f⟩
def KR(ie:iu P P' e):vj P P' (.yes e):=λz f=>by
 simp only[ja]at z;obtain⟨h1,S1,e1,o1⟩:=ie z f;exact⟨h1,S1,by simp only[Ev.ja,e1],o1⟩
def VQ(ia:iu P P' a)(ib:iu P P' b):iu P P' (.an a b):=λz f=>by
 simp only[aH]at z;replace z:=ah z;obtain⟨k,af,z1,z⟩:=z;obtain⟨h1,S1,e1,o1⟩:=ia z1 f;cases k with
 |true=>
  simp only[aan]at z;obtain⟨h2,S2,e2,o2⟩:=ib z o1.f;exact⟨h2,S2,by simp only[Ev.aH,e1,Ev.ak,aan,e2],o1.trans o2⟩
 |false=>
  simp only[aap,aa2]at z;cases z;exact⟨h1,S1,by simp only[Ev.aH,e1,Ev.ak];rfl,o1.weak (by simp only[bQ];intro i hi;simp[hi])⟩
def RW(ia:iu P P' a)(ib:iu P P' b):iu P P' (.orr a b):=λz f=>by
 simp only[aH]at z;replace z:=ah z;obtain⟨k,af,z1,z⟩:=z;obtain⟨h1,S1,e1,o1⟩:=ia z1 f;cases k with
 |false=>
  simp only[aap,aa2]at z;obtain⟨h2,S2,e2,o2⟩:=ib z o1.f;exact⟨h2,S2,by simp only[Ev.aH,e1,Ev.ak];rw[Yv (by decide)];exact e2,o1.trans o2⟩
 |true=>
  simp only[aan]at z;cases z;exact⟨h1,S1,by simp only[Ev.aH,e1,Ev.ak];rfl,o1.weak (by simp only[bQ];intro i hi;simp[hi])⟩
def VR(ia:iu P P' a):iu P P' (.nt a):=λz f=>by
 simp only[aH]at z;replace z:=ah z;obtain⟨k,af,z1,z⟩:=z;obtain⟨h1,S1,e1,o1⟩:=ia z1 f;cases z;exact⟨h1,S1,by simp only[Ev.aH,e1,Ev.ak],o1⟩
def dH(ie:bB P P' e)(h1:∀fr,aH P e fr=(ev P true e fr).bind λx af=>.ok (truthy x) af)(h2:∀fr h,Ev.aH P' e fr h=(Ev.ev P' e fr h).bind λx h1=>Ev.R.of (Ev.truthy h1 x) h1):iu P P' e:=λz f=>by
 rw[h1]at z;replace z:=ah z;obtain⟨x,af,z1,z⟩:=z;cases z;obtain⟨d,h1,S1,e1,q1,o1⟩:=ie z1 f;exact⟨h1,S1,by rw[h2,e1,Ev.ak,Dr q1.t];rfl,o1⟩
def DI(ie:bB P P' e){k:Bool}{fr:Fr}{v:V}{af:Fr}{M B:Nat->Prop}{h:Hh}{S:Nat->Prop}{aj:Ev.Fr}(z:src k fr e (ev P k e fr)=.ok v af)(f:bh M B h S fr aj) :
  ∃d h' S',Ev.ev P' e aj h=.ok d h'/\br h' S' v d/\(k=false->∀n,d=.ref n->¬ M n)/\Out M B (bQ e) h S fr aj h' S' af:=by
 have gen:ev P k e fr=.ok v af->∃d h' S',Ev.ev P' e aj h=.ok d h'/\br h' S' v d/\(k=false->∀n,d=.ref n->¬ M n)/\Out M B (bQ e) h S fr aj h' S' af:=λz=>by
  obtain⟨d,h1,S1,e1,q1,o1⟩:=ie z f;refine⟨d,h1,S1,e1,q1.t,λhk n hd=>?_,o1⟩;subst hk;have q:=q1.n;cases v<;>simp only[Rep]at q
  .cases q.symm.trans hd
  .cases q.symm.trans hd
  .cases q.symm.trans hd
  .cases q.symm.trans hd
  .obtain⟨_,q,_⟩:=q;cases q.symm.trans hd
  .obtain⟨m,ds,q,sm,_⟩:=q;cases q.symm.trans hd;exact(o1.f.wS _ sm).2.1
  .obtain⟨m,ds,q,sm,_⟩:=q;cases q.symm.trans hd;exact(o1.f.wS _ sm).2.1
  .obtain⟨m,q,sm,_⟩:=q;cases q.symm.trans hd;exact(o1.f.wS _ sm).2.1
 cases e
 case v i=>
  simp only[src]at z;replace z:=aM z;obtain⟨z,y0⟩:=z;subst y0;unfold Bk at z;split at z
  .rename_i l y;cases z;obtain⟨p,e1,m,ds,rfl,y1,y2,y3⟩:=f.get y;exact⟨.ref m,h,S,by simp only[Ev.ev,e1,Option.join,Option.bind,id,Ev.dh],⟨m,ds,rfl,y2,y3⟩,λ_ n hn=>by cases hn;exact y1,.refl f⟩
  .exact gen (by simp only[ev,z,dh])
 all_goals exact gen z
def OR(ie:bB P P' e):mU P P' (.seq e):=λz f=>by
 simp only[cy]at z;replace z:=ah z;obtain⟨x,af,z1,z⟩:=z;replace z:=aM z;obtain⟨z,y0⟩:=z;subst y0;obtain⟨d,h1,S1,e1,q1,q2,o1⟩:=DI ie z1 f;obtain⟨s,a1,a2,a3⟩:=FT z q1;exact⟨s,h1,S1,by simp only[Ev.cy,e1,Ev.ak,a1,Ev.dh],a2,λq hq=>⟨(a3 q hq).2,λhk=>q2 hk _ (a3 q hq).1⟩,o1⟩
def KS(is:j0 P P' es):mU P P' (.iU es):=λz f=>by
 simp only[cy]at z;replace z:=ah z;obtain⟨x,af,z1,z⟩:=z;replace z:=aM z;obtain⟨z,y0⟩:=z;subst y0;obtain⟨d,h1,S1,e1,q1,o1⟩:=is z1 f;obtain⟨s,a1,a2⟩:=OA z q1.t;exact⟨(s,[]),h1,S1,by simp only[Ev.cy,e1,Ev.ak,a1,Ev.dh],a2,λq hq=>by simp at hq,o1⟩
def Ga(ie:bB P P' e):mU P P' (.enum e):=λz f=>by
 simp only[cy]at z;replace z:=ah z;obtain⟨x,af,z1,z⟩:=z;replace z:=aM z;obtain⟨z,y0⟩:=z;subst y0;obtain⟨d,h1,S1,e1,q1,q2,o1⟩:=DI ie z1 f;simp only[gV]at z;obtain⟨l,z,rfl⟩:=z;obtain⟨s,a1,a2,a3⟩:=KJ z q1;exact⟨(Ev.cD 0 s.1,s.2),h1,S1,by simp only[Ev.cy,e1,Ev.ak,a1,Option.map,Ev.dh],zF 0 a2,λq hq=>⟨(a3 q hq).2,λhk=>q2 hk _ (a3 q hq).1⟩,o1⟩
def KU(ie:bB P P' e):mU P P' (.rev e):=λz f=>by
 simp only[cy]at z;replace z:=ah z;obtain⟨x,af,z1,z⟩:=z;replace z:=aM z;obtain⟨z,y0⟩:=z;subst y0;obtain⟨d,h1,S1,e1,q1,o1⟩:=ie z1 f;simp only[gV]at z;obtain⟨l,z,rfl⟩:=z;cases x<;>simp only[Bj,reduceCtorEq]at z
 cases z;have k1:=q1.t;simp only[br,Rep]at k1;obtain⟨ds,y1,k2⟩:=k1;subst y1;exact⟨(ds.reverse,[]),h1,S1,by simp only[Ev.cy,e1,Ev.ak,Ev.E8,Option.map,Ev.dh],k2.reverse,λq hq=>by simp at hq,o1⟩
end
section
variable{P:aL}{P':Ev.aL}(HP:pe P P')
include HP
mutual
theorem aZ:∀e:E,bB P P' e
 |.c _=>OJ
 |.v _=>OL
 |.tup es=>Dv (gI es)
 |.lst es=>Dw (gI es)
 |.bin _ a b=>Dy (aZ a) (aZ b)
 |.cmp _ a b=>Dz (aZ a) (aZ b)
 |.nt a=>RS (aZ a)
 |.neg a=>DC (aZ a)
 |.an a b=>RT (aZ a) (aZ b)
 |.orr a b=>OM (aZ a) (aZ b)
 |.iX t a b=>DE (fU t) (aZ a) (aZ b)
 |.ix a b=>Ik (aZ a) (aZ b)
 |.sl a lo hi=>Il (aZ a) (rH lo) (rH hi)
 |.jS a=>DF (aZ a)
 |.fh a b=>zM (aZ a) (aZ b)
 |.jT _=>DB
 |.ku a b=>DA (aZ a) (aZ b)
 |.cl _ es=>Im HP (oh es)
 |.bi _ es=>Io (gI es)
 |.me _ o es=>Ip (aZ o) (gI es)
 |.comp elt _ it cond=>wZ (kF it) (DJ cond) (aZ elt)
 |.gU it=>DH (kF it)
 |.gY _ a=>zN (aZ a)
 |.gy a=>DG (aZ a)
theorem fU:∀e:E,iu P P' e
 |.an a b=>VQ (fU a) (fU b)
 |.orr a b=>RW (fU a) (fU b)
 |.nt a=>VR (fU a)
 |.c x=>dH OJ (λ_=>by simp only[aH]) (λ_ _=>by simp only[Ev.aH])
 |.v x=>dH OL (λ_=>by simp only[aH]) (λ_ _=>by simp only[Ev.aH])
 |.tup es=>dH (Dv (gI es)) (λ_=>by simp only[aH]) (λ_ _=>by simp only[Ev.aH])
 |.lst es=>dH (Dw (gI es)) (λ_=>by simp only[aH]) (λ_ _=>by simp only[Ev.aH])
 |.bin _ a b=>dH (Dy (aZ a) (aZ b)) (λ_=>by simp only[aH]) (λ_ _=>by simp only[Ev.aH])
 |.cmp _ a b=>dH (Dz (aZ a) (aZ b)) (λ_=>by simp only[aH]) (λ_ _=>by simp only[Ev.aH])
 |.neg a=>dH (DC (aZ a)) (λ_=>by simp only[aH]) (λ_ _=>by simp only[Ev.aH])
 |.iX t a b=>dH (DE (fU t) (aZ a) (aZ b)) (λ_=>by simp only[aH]) (λ_ _=>by simp only[Ev.aH])
 |.ix a b=>dH (Ik (aZ a) (aZ b)) (λ_=>by simp only[aH]) (λ_ _=>by simp only[Ev.aH])
 |.sl a lo hi=>dH (Il (aZ a) (rH lo) (rH hi)) (λ_=>by simp only[aH]) (λ_ _=>by simp only[Ev.aH])
 |.jS a=>dH (DF (aZ a)) (λ_=>by simp only[aH]) (λ_ _=>by simp only[Ev.aH])
 |.fh a b=>dH (zM (aZ a) (aZ b)) (λ_=>by simp only[aH]) (λ_ _=>by simp only[Ev.aH])
 |.jT _=>dH DB (λ_=>by simp only[aH]) (λ_ _=>by simp only[Ev.aH])
 |.ku a b=>dH (DA (aZ a) (aZ b)) (λ_=>by simp only[aH]) (λ_ _=>by simp only[Ev.aH])
 |.cl _ es=>dH (Im HP (oh es)) (λ_=>by simp only[aH]) (λ_ _=>by simp only[Ev.aH])
 |.bi _ es=>dH (Io (gI es)) (λ_=>by simp only[aH]) (λ_ _=>by simp only[Ev.aH])
 |.me _ o es=>dH (Ip (aZ o) (gI es)) (λ_=>by simp only[aH]) (λ_ _=>by simp only[Ev.aH])
 |.comp elt _ it cond=>dH (wZ (kF it) (DJ cond) (aZ elt)) (λ_=>by simp only[aH]) (λ_ _=>by simp only[Ev.aH])
 |.gU it=>dH (DH (kF it)) (λ_=>by simp only[aH]) (λ_ _=>by simp only[Ev.aH])
 |.gY _ a=>dH (zN (aZ a)) (λ_=>by simp only[aH]) (λ_ _=>by simp only[Ev.aH])
 |.gy a=>dH (DG (aZ a)) (λ_=>by simp only[aH]) (λ_ _=>by simp only[Ev.aH])
theorem gI:∀e:Es,j0 P P' e
 |.nil=>OO
 |.cons e es=>KP (aZ e) (gI es)
theorem oh:∀e:Es,rF P P' e
 |.nil=>KQ
 |.cons e es=>FZ (aZ e) (oh es)
theorem rH:∀e:Eo,rG P P' e
 |.no=>RU
 |.yes e=>OP (aZ e)
theorem DJ:∀e:Eo,vj P P' e
 |.no=>OQ
 |.yes e=>KR (fU e)
theorem kF:∀e:It,mU P P' e
 |.seq e=>OR (aZ e)
 |.iU es=>KS (gI es)
 |.enum a=>Ga (aZ a)
 |.rev a=>KU (aZ a)
end
end
structure Tr(M B:Nat->Prop)(h:Hh)(S:Nat->Prop)(M':Nat->Prop)(h':Hh)(S':Nat->Prop):Prop where
 len:h.length<=h'.length
 keep:∀m,m<h.length->¬ M m->h'[m]?=h[m]?
 sub:∀m,S m->S' m
 new:∀m,S' m->S m\/(h.length<=m/\m<h'.length)\/(M m/\¬ B m)
 tN:∀m,M' m->M m\/h.length<=m
structure cX(M B:Nat->Prop)(h:Hh)(S:Nat->Prop)(fr:Fr)(aj:Ev.Fr)(M':Nat->Prop)(h':Hh)(S':Nat->Prop)(af:Fr)(bz:Ev.Fr):Prop where
 f:bh M' B h' S' af bz
 tr:Tr M B h S M' h' S'
 lk:∀i,locked af i=locked fr i
 rf:∀i,locked fr i=true->bz[i]?=aj[i]?
noncomputable def fK(h:Hh)(S:Nat->Prop):Fl->Ev.Fl->Prop
 |.nx,g=>g=.nx
 |.bk,g=>g=.bk
 |.ct,g=>g=.ct
 |.ret v,g=>∃d,g=.ret d/\Rep h S v d
section
variable{M B M' M1 M2:Nat->Prop}{h h1 h2:Hh}{S S' S1 S2:Nat->Prop}{fr af ao:Fr}{aj bz jN:Ev.Fr}{c:List Nat}{v:V}{d:D}
def cX.refl(f:bh M B h S fr aj):cX M B h S fr aj M h S fr aj:=⟨f,⟨Ad _,λ_ _ _=>rfl,λ_ q=>q,λ_ q=>.inl q,λ_ q=>.inl q⟩,λ_=>rfl,λ_ _=>rfl⟩
def Out.s(o:Out M B c h S fr aj h1 S1 af):cX M B h S fr aj M h1 S1 af aj:=⟨o.f,⟨o.tr.len,λm y1 y2=>o.tr.keep m y1 (λz=>y2 z.1),o.tr.sub,λm q=>(o.tr.new m q).imp id .inl,λ_ q=>.inl q⟩,o.lk,λ_ _=>rfl⟩
theorem cX.trans(f0:bh M B h S fr aj)(a:cX M B h S fr aj M1 h1 S1 af bz)(b:cX M1 B h1 S1 af bz M2 h2 S2 ao jN):cX M B h S fr aj M2 h2 S2 ao jN where
 f:=b.f
 tr:=⟨aaf a.tr.len b.tr.len,λm y1 y2=>by
   rw[b.tr.keep m (xT y1 a.tr.len) (λz=>by
    rcases a.tr.tN m z with z|z
    .exact y2 z
    .omega),a.tr.keep m y1 y2],λm q=>b.tr.sub m (a.tr.sub m q),λm q=>by
   rcases b.tr.new m q with q|q|q
   .rcases a.tr.new m q with q|q|q
    .exact .inl q
    .exact .inr (.inl ⟨q.1,xT q.2 b.tr.len⟩)
    .exact .inr (.inr q)
   .exact .inr (.inl ⟨aaf a.tr.len q.1,q.2⟩)
   .rcases a.tr.tN m q.1 with z|z
    .exact .inr (.inr ⟨z,q.2⟩)
    .exact .inr (.inl ⟨z,xT (a.f.wM m q.1) b.tr.len⟩),λm q=>by
   rcases b.tr.tN m q with q|q
   .exact a.tr.tN m q
   .exact .inr (aaf a.tr.len q)⟩
 lk:=λi=>(b.lk i).trans (a.lk i)
 rf:=λi q=>(b.rf i (by rw[a.lk i];exact q)).trans (a.rf i q)
def bh.kind(f:bh M B h S fr aj)(g:Option Sl->Option Sl->Prop)(hl:af.length=fr.length)(hg:∀(i:Nat) o,af[i]?=some o->∃o0,fr[i]?=some o0/\(o=o0\/(∃l,o0=some (.own l)/\o=some (.val (.lst l)))\/(∃l,o0=some (.bor l)/\o=some (.ro l)))) :
  ∃M' S',cX M B h S fr aj M' h S' af aj:=by
 let X:Nat->Prop:=λm=>∃(i:Nat) (l:List V),fr[i]?=some (some (Sl.own l))/\af[i]?=some (some (Sl.val (V.lst l)))/\aj[i]?=some (some (D.ref m))
 let Y:Nat->Prop:=λm=>∃(i:Nat) (l:List V),fr[i]?=some (some (Sl.bor l))/\af[i]?=some (some (Sl.ro l))/\aj[i]?=some (some (D.ref m))
 have xM:∀m,X m->M m/\¬ B m:=λm ⟨i,l,a,_,b⟩=>by
  obtain⟨m',ds,e,q,_⟩:=f.sl i _ _ a b;cases e;exact q
 have yM:∀m,Y m->M m/\B m:=λm ⟨i,l,a,_,b⟩=>by
  obtain⟨m',ds,e,q,_⟩:=f.sl i _ _ a b;cases e;exact q
 have mono:∀{l:List V} {ds:List D},au h S l ds->au h (λm=>S m\/X m) l ds:=λq=>q.mono (λ_ _=>rfl) λ_ z=>.inl z;refine⟨λm=>M m/\¬ X m/\¬ Y m,λm=>S m\/X m,⟨⟨λm q=>?_,λm q=>f.wM m q.1,f.wB,by rw[hl,f.len],λi o p e1 e2=>?_,λi j o o' m y1 y2 y3 y4 y5 y6=>?_⟩,⟨Ad _,λ_ _ _=>rfl,λ_ q=>.inl q,λm q=>?_,λm q=>.inl q.1⟩,λi=>?_,λ_ _=>rfl⟩⟩
 .rcases q with q|q
  .exact⟨(f.wS m q).1,λz=>(f.wS m q).2.1 z.1,(f.wS m q).2.2⟩
  .exact⟨f.wM m (xM m q).1,λz=>z.2.1 q,(xM m q).2⟩
 .obtain⟨o0,e0,k⟩:=hg i o e1;have old:=f.sl i o0 p e0 e2;rcases k with rfl|⟨l,rfl,rfl⟩|⟨l,rfl,rfl⟩
  .rcases o with _|s
   .exact old
   .cases s with
    |val v=>obtain⟨d,e,q⟩:=old;exact⟨d,e,q.mono (λ_ _=>rfl) λ_ z=>.inl z⟩
    |own l=>
     obtain⟨m,ds,rfl,z,y,q⟩:=old;refine⟨m,ds,rfl,⟨⟨z.1,λ⟨j,l',a1,a2,a3⟩=>?_,λ⟨j,l',a1,a2,a3⟩=>?_⟩,z.2⟩,y,mono q⟩
     .have:=f.inj i j _ _ m e0 a1 rfl rfl e2 a3;subst this;rw[e1]at a2;cases a2
     .have:=f.inj i j _ _ m e0 a1 rfl rfl e2 a3;subst this;rw[e1]at a2;cases a2
    |bor l=>
     obtain⟨m,ds,rfl,z,y,q⟩:=old;refine⟨m,ds,rfl,⟨⟨z.1,λ⟨j,l',a1,a2,a3⟩=>?_,λ⟨j,l',a1,a2,a3⟩=>?_⟩,z.2⟩,y,mono q⟩
     .have:=f.inj i j _ _ m e0 a1 rfl rfl e2 a3;subst this;rw[e1]at a2;cases a2
     .have:=f.inj i j _ _ m e0 a1 rfl rfl e2 a3;subst this;rw[e1]at a2;cases a2
    |ro l=>obtain⟨m,ds,rfl,z,y,q⟩:=old;exact⟨m,ds,rfl,λw=>z w.1,y,mono q⟩
  .obtain⟨m,ds,rfl,z,y,q⟩:=old;exact⟨.ref m,rfl,m,ds,rfl,.inr ⟨i,l,e0,e1,e2⟩,y,mono q⟩
  .obtain⟨m,ds,rfl,z,y,q⟩:=old;exact⟨m,ds,rfl,λw=>w.2.2 ⟨i,l,e0,e1,e2⟩,y,mono q⟩
 .have kd:∀(i:Nat) o,af[i]?=some o->iL o=true->∃o0,fr[i]?=some o0/\iL o0=true:=λi o w1 w2=>by
   obtain⟨o0,e0,k⟩:=hg i o w1;rcases k with rfl|⟨l,rfl,rfl⟩|⟨l,rfl,rfl⟩
   .exact⟨o,e0,w2⟩
   .cases w2
   .cases w2
  obtain⟨oi,k1,k2⟩:=kd i o y1 y3;obtain⟨oj,k3,k4⟩:=kd j o' y2 y4;exact f.inj i j oi oj m k1 k3 k2 k4 y5 y6
 .rcases q with q|q
  .exact .inl q
  .exact .inr (.inr (xM m q))
 .unfold locked;cases z:af[i]? with
  |none=>
   have:fr[i]?=none:=by rw[ack]at z ⊢;omega
   rw[this]
  |some o=>
   obtain⟨o0,e0,k⟩:=hg i o z;rw[e0];rcases k with rfl|⟨l,rfl,rfl⟩|⟨l,rfl,rfl⟩<;>rfl
def bh.eF(f:bh M B h S fr aj):∃M' S',cX M B h S fr aj M' h S' (gj fr) aj:=by
 refine f.kind (λ_ _=>True) (by simp[gj]) λi o e=>?_;unfold gj at e;rw[aaj]at e;cases z:fr[i]? with
 |none=>rw[z]at e;cases e
 |some o0=>
  rw[z]at e;cases e;refine⟨o0,rfl,?_⟩;rcases o0 with _|s
  .exact .inl rfl
  .cases s with
   |own l=>exact .inr (.inl ⟨l,rfl,rfl⟩)
   |_=>exact .inl rfl
theorem bh.walk:∀(is:List Nat) {M:Nat->Prop}{S:Nat->Prop}{fr:Fr},bh M B h S fr aj->∃M' S',cX M B h S fr aj M' h S' (rB is fr) aj
 |[],_,_,_,f=>⟨_,_,.refl f⟩
 |i :: is,M,S,fr,f=>by
  have one:∃M1 S1,cX M B h S fr aj M1 h S1 (match fr[i]? with|some (some s)=>fr.set i (some s.walk)|_=>fr) aj:=by
   split
   .rename_i s z;have hl:=(List.getElem?_eq_some_iff.mp z).1;refine f.kind (λ_ _=>True) (by simp) λj o e=>?_;by_cases hj:i=j
    .subst hj;rw[WS hl]at e;cases e;refine⟨_,z,?_⟩;cases s with
     |own l=>exact .inr (.inl ⟨l,rfl,rfl⟩)
     |bor l=>exact .inr (.inr ⟨l,rfl,rfl⟩)
     |_=>exact .inl rfl
    .rw[UJ hj]at e;exact⟨o,e,.inl rfl⟩
   .exact⟨M,S,.refl f⟩
  obtain⟨M1,S1,o1⟩:=one;obtain⟨M2,S2,o2⟩:=bh.walk is o1.f;exact⟨M2,S2,o1.trans f o2⟩
theorem bh.own(f:bh M B h S fr aj){i:Nat}{l:List V}{ds:List D}(e:put fr i (.own l)=some af)(q:au h S l ds):cX M B h S fr aj (λm=>M m\/m=h.length) (h++[.lst ds]) S af (aj.set i (some (.ref h.length))):=by
 have hx:af=fr.set i (some (.own l))/\locked fr i=false:=by
  unfold put at e;unfold locked;split at e
  .cases e
  .cases e
  .rename_i k1 k2;cases e;refine⟨rfl,?_⟩;cases z:fr[i]? with
   |none=>rfl
   |some o=>
    rcases o with _|s
    .rfl
    .cases s with
     |bor l=>exact absurd z (k1 l)
     |ro l=>exact absurd z (k2 l)
     |_=>rfl
 obtain⟨rfl,hk⟩:=hx;have kp:∀m,m<h.length->(h++[O.lst ds])[m]?=h[m]?:=λm z=>by rw[UK z]
 have kS:∀m,S m->(h++[O.lst ds])[m]?=h[m]?:=λm z=>kp m (f.w m z);refine⟨⟨λm y=>⟨by have:=(f.wS m y).1;simp;omega,λz=>?_,(f.wS m y).2.2⟩,λm y=>?_,λm y=>by have:=f.wB m y;simp;omega,by simp[f.len],λj o p y1 y2=>?_,λj k o o' m y1 y2 y3 y4 y5 y6=>?_⟩,⟨by simp,λm y _=>kp m y,λ_ z=>z,λ_ z=>.inl z,λm z=>z.imp id (λz=>by omega)⟩,λj=>?_,λj hj=>?_⟩
 .rcases z with z|z
  .exact(f.wS m y).2.1 z
  .have:=(f.wS m y).1;omega
 .rcases y with y|y
  .have:=f.wM m y;simp;omega
  .subst y;simp
 .by_cases hj:i=j
  .subst hj;have hl:i<fr.length:=by have:=(List.getElem?_eq_some_iff.mp y1).1;simpa using this
   rw[WS hl]at y1;rw[WS (by rw[<-f.len];exact hl)]at y2;cases y1;cases y2;exact⟨h.length,ds,rfl,⟨.inr rfl,λz=>by have:=f.wB _ z;omega⟩,by simp,q.mono kS λ_ z=>z⟩
  .rw[UJ hj]at y1 y2;have old:=f.sl j o p y1 y2;rcases o with _|s
   .exact old
   .cases s with
    |val v=>obtain⟨d,e,q⟩:=old;exact⟨d,e,q.mono kS λ_ z=>z⟩
    |own l=>obtain⟨m,es,rfl,z,y,q⟩:=old;exact⟨m,es,rfl,⟨.inl z.1,z.2⟩,by rw[kp m (f.wM m z.1)];exact y,q.mono kS λ_ z=>z⟩
    |bor l=>obtain⟨m,es,rfl,z,y,q⟩:=old;exact⟨m,es,rfl,⟨.inl z.1,z.2⟩,by rw[kp m (f.wM m z.1)];exact y,q.mono kS λ_ z=>z⟩
    |ro l=>
     obtain⟨m,es,rfl,z,y,q⟩:=old;have hm:=(List.getElem?_eq_some_iff.mp y).1;exact⟨m,es,rfl,λw=>by rcases w with w|w;exact z w;omega,by rw[kp m hm];exact y,q.mono kS λ_ z=>z⟩
 .have low:∀(j:Nat) o,i≠j->fr[j]?=some o->iL o=true->aj[j]?=some (some (.ref m))->m<h.length:=λj o _ w1 w2 w3=>f.wM m (f.mM w1 w2 w3);have new:∀(j:Nat),j<fr.length->i=j->(aj.set i (some (.ref h.length)))[j]?=some (some (.ref m))->m=h.length:=λj hl hj w=>by
   subst hj;rw[WS (by rw[<-f.len];exact hl)]at w;cases w;rfl
  have lj:j<fr.length:=by have:=(List.getElem?_eq_some_iff.mp y1).1;simpa using this
  have lk:k<fr.length:=by have:=(List.getElem?_eq_some_iff.mp y2).1;simpa using this
  by_cases hj:i=j
  .by_cases hk2:i=k
   .rw[<-hj,<-hk2]
   .have a:=new j lj hj y5;rw[UJ hk2]at y2 y6;have b:=low k o' hk2 y2 y4 y6;omega
  .by_cases hk2:i=k
   .have a:=new k lk hk2 y6;rw[UJ hj]at y1 y5;have b:=low j o hj y1 y3 y5;omega
   .rw[UJ hj]at y1 y5;rw[UJ hk2]at y2 y6;exact f.inj j k o o' m y1 y2 y3 y4 y5 y6
 .by_cases hj:i=j
  .subst hj;rw[hk];unfold locked;by_cases hl:i<fr.length
   .rw[WS hl];rfl
   .rw[aaw (by simpa using hl)]
  .unfold locked;rw[UJ hj]
 .have:i≠j:=λz=>by subst z;rw[hk]at hj;cases hj
  rw[UJ this]
end
inductive UC(P':Ev.aL)(w:Nat)(s:S)(g:Fl)(M B:Nat->Prop)(h:Hh)(S:Nat->Prop)(fr:Fr)(aj:Ev.Fr)(af:Fr):Prop
 |mk (g':Ev.Fl) (bz:Ev.Fr) (M':Nat->Prop) (h':Hh) (S':Nat->Prop) (c0:Ev.ex P' w s aj h=.ok (g',bz) h') (c1:fK h' S' g g') (c2:cX M B h S fr aj M' h' S' af bz):UC P' w s g M B h S fr aj af
inductive OS(P':Ev.aL)(w:Nat)(s:Ss)(g:Fl)(M B:Nat->Prop)(h:Hh)(S:Nat->Prop)(fr:Fr)(aj:Ev.Fr)(af:Fr):Prop
 |mk (g':Ev.Fl) (bz:Ev.Fr) (M':Nat->Prop) (h':Hh) (S':Nat->Prop) (c0:Ev.exs P' w s aj h=.ok (g',bz) h') (c1:fK h' S' g g') (c2:cX M B h S fr aj M' h' S' af bz):OS P' w s g M B h S fr aj af
section
variable(P:aL)(P':Ev.aL)(w:Nat)
noncomputable def om(s:S):Prop:=∀{fr:Fr} {g:Fl} {af:Fr} {M B:Nat->Prop} {h:Hh} {S:Nat->Prop} {aj:Ev.Fr},ex P w s fr=.ok g af->bh M B h S fr aj->UC P' w s g M B h S fr aj af
noncomputable def rJ(s:Ss):Prop:=∀{fr:Fr} {g:Fl} {af:Fr} {M B:Nat->Prop} {h:Hh} {S:Nat->Prop} {aj:Ev.Fr},exs P w s fr=.ok g af->bh M B h S fr aj->OS P' w s g M B h S fr aj af
end
section
variable{P:aL}{P':Ev.aL}{w:Nat}(HP:pe P P')
include HP
def KW{i:Nat}{e:E}:om P P' w (.set i e):=λ{fr g af M B h S aj} z f=>by
 simp only[ex]at z;replace z:=ah z;obtain⟨x,ao,z1,z⟩:=z;by_cases hn:isNew e=true
 .rw[mD hn]at z;have key:∃l ds h1 S1,x=.lst l/\au h1 S1 l ds/\Ev.ev P' e aj h=.ok (.ref h1.length) (h1++[.lst ds])/\Out M B (bQ e) h S fr aj h1 S1 ao:=by
   cases e <;> (try simp only[isNew,aap]at hn)
   case lst es=>
    simp only[ev]at z1;replace z1:=ah z1;obtain⟨l,bR,z2,z1⟩:=z1;replace z1:=aM z1;obtain⟨z1,y0⟩:=z1;subst y0;unfold eN at z1;split at z1
    case isFalse=>cases z1
    rename_i hk;cases z1;obtain⟨ds,h1,S1,e1,q1,o1⟩:=gI HP es z2 f;refine⟨l,ds,h1,S1,rfl,q1.n,?_,o1⟩;simp only[Ev.ev,e1,Ev.ak,Ev.alloc];rw[mD (by rw[<-q1.n.length];exact hk)]
   case gU it=>
    simp only[ev]at z1;replace z1:=ah z1;obtain⟨l,bR,z2,z1⟩:=z1;replace z1:=aM z1;obtain⟨z1,y0⟩:=z1;subst y0;unfold eN at z1;split at z1
    case isFalse=>cases z1
    rename_i hk;cases z1;obtain⟨s,h1,S1,e1,q1,q2,o1⟩:=kF HP it z2 f;refine⟨l,s.1,h1,S1,rfl,q1,?_,o1⟩;simp only[Ev.ev,e1,Ev.ak,Ev.alloc];rw[mD (by rw[<-q1.length];exact hk)]
   case fh a b=>
    simp only[ev]at z1;replace z1:=two (aZ HP a) (aZ HP b) z1 f;obtain⟨x,y,d,e,h2,S2,bR,k,z1,q1,q2,ou⟩:=z1;replace z1:=aM z1;obtain⟨z1,y0⟩:=z1;subst y0;obtain⟨la,lb,n,ds,m,es,rfl,rfl,zz,rfl,rfl,a1,a2,p,q⟩:=zL z1 q1 q2;unfold eN at zz;split at zz
    case isFalse=>cases zz
    rename_i hk;cases zz;refine⟨la++lb,ds++es,h2,S2,rfl,p.append q,?_,ou⟩;simp only[Ev.ev];rw[k];simp only[Ev.E9,Ev.bD,a1,a2,Ev.alloc];rw[mD (by rw[PX,<-p.length,<-q.length,<-PX];exact hk)]
  obtain⟨l,ds,h1,S1,rfl,q1,e1,o1⟩:=key;simp only at z;replace z:=ah z;obtain⟨bR,jV,z2,z⟩:=z;replace z2:=aM z2;obtain⟨z2,y0⟩:=z2;subst y0;cases z;have o2:=o1.f.own z2 q1;exact⟨.nx,_,_,_,_,by simp only[Ev.ex,e1,Ev.ak],rfl,o1.s.trans f o2⟩
 .rw[Yv hn]at z;replace z:=ah z;obtain⟨bR,jV,z2,z⟩:=z;replace z2:=aM z2;obtain⟨z2,y0⟩:=z2;subst y0;cases z;obtain⟨d,h1,S1,e1,q1,o1⟩:=aZ HP e z1 f;obtain⟨f2,l2,r2⟩:=o1.f.set z2 q1.n;refine⟨.nx,_,_,_,_,by simp only[Ev.ex,e1,Ev.ak],rfl,o1.s.trans f ⟨f2,(cX.refl f2).tr,l2,r2⟩⟩
def KY{l:List Nat}{e:E}:om P P' w (.iA l e):=λ{fr g af M B h S aj} z f=>by
 simp only[ex]at z;replace z:=ah z;obtain⟨x,ao,z1,z⟩:=z;replace z:=ah z;obtain⟨bR,jV,z2,z⟩:=z;replace z2:=aM z2;obtain⟨z2,y0⟩:=z2;subst y0;cases z;obtain⟨d,h1,S1,e1,q1,o1⟩:=aZ HP e z1 f;obtain⟨iD,b1,f2,l2,r2⟩:=o1.f.bJ z2 q1.n;exact⟨.nx,_,_,_,_,by simp only[Ev.ex,e1,Ev.ak,b1],rfl,o1.s.trans f ⟨f2,(cX.refl f2).tr,l2,r2⟩⟩
def OT{e:E}:om P P' w (.exp e):=λ{fr g af M B h S aj} z f=>by
 simp only[ex]at z;replace z:=ah z;obtain⟨x,ao,z1,z⟩:=z;cases z;obtain⟨d,h1,S1,e1,q1,o1⟩:=aZ HP e z1 f;exact⟨.nx,_,_,_,_,by simp only[Ev.ex,e1,Ev.ak],rfl,o1.s⟩
def OU{e:E}:om P P' w (.ret e):=λ{fr g af M B h S aj} z f=>by
 simp only[ex]at z;replace z:=ah z;obtain⟨x,ao,z1,z⟩:=z;cases z;obtain⟨M1,S1,o1⟩:=f.eF;obtain⟨d,h2,S2,e1,q1,o2⟩:=aZ HP e z1 o1.f;exact⟨.ret d,_,_,_,_,by simp only[Ev.ex,e1,Ev.ak],⟨d,rfl,q1.n⟩,o1.trans f o2.s⟩
omit HP in
theorem tO{F:V->Fr->R Fl}{F':D->Ev.Fr->Hh->Ev.R (Ev.Fl×Ev.Fr)}{ck:List (Nat×List D)}{B:Nat->Prop}{M0:Nat->Prop}{h0:Hh}{S0:Nat->Prop}{dM:Fr}{Gb:Ev.Fr}(f0:bh M0 B h0 S0 dM Gb)(st:∀q∈ck,bx h0 q.1=some q.2/\¬ M0 q.1)
  (turn:∀v d fr g af M h S aj,F v fr=.ok g af->bh M B h S fr aj->Rep h S v d->∃g' bz M' h' S',F' d aj h=.ok (g',bz) h'/\fK h' S' g g'/\cX M B h S fr aj M' h' S' af bz) :
  ∀{vs:List V} {ds:List D} {fr:Fr} {g:Fl} {af:Fr} {M:Nat->Prop} {h:Hh} {S:Nat->Prop} {aj:Ev.Fr},forL F vs fr=.ok g af->cX M0 B h0 S0 dM Gb M h S fr aj->au h S vs ds->
  ∃g' bz M' h' S',Ev.forL F' ck ds aj h=.ok (g',bz) h'/\fK h' S' g g'/\cX M0 B h0 S0 dM Gb M' h' S' af bz
 |[],ds,fr,g,af,M,h,S,aj,e,o,q=>by
  simp only[forL]at e;simp only[au]at q;subst q;cases e;refine⟨.nx,aj,M,h,S,?_,rfl,o⟩;simp only[Ev.forL];rw[mD (ju λx hx=>kE (st x hx).1 (o.tr.keep _ (mh (st x hx).1) (st x hx).2))]
 |v :: vs,ds,fr,g,af,M,h,S,aj,e,o,q=>by
  simp only[forL]at e;replace e:=ah e;obtain⟨p,ao,e1,e⟩:=e;simp only[au]at q;obtain⟨d,es,rfl,q1,q2⟩:=q;obtain⟨g',jN,M2,h2,S2,t1,t2,t3⟩:=turn v d fr p ao M h S aj e1 o.f q1;have o2:=o.trans f0 t3;have Ir:Ev.stays h ck=true:=ju λx hx=>kE (st x hx).1 (o.tr.keep _ (mh (st x hx).1) (st x hx).2);have UD:au h2 S2 vs es:=q2.mono (λm z=>t3.tr.keep m (o.f.wS m z).1 (o.f.wS m z).2.1) t3.tr.sub;cases p with
  |nx=>
   simp only[fK]at t2;subst t2;simp only at e;obtain⟨rK,iD,M3,h3,S3,u1,u2,u3⟩:=tO f0 st turn e o2 UD;refine⟨rK,iD,M3,h3,S3,?_,u2,u3⟩;simp only[Ev.forL];rw[mD Ir,t1,Ev.ak];exact u1
  |ct=>
   simp only[fK]at t2;subst t2;simp only at e;obtain⟨rK,iD,M3,h3,S3,u1,u2,u3⟩:=tO f0 st turn e o2 UD;refine⟨rK,iD,M3,h3,S3,?_,u2,u3⟩;simp only[Ev.forL];rw[mD Ir,t1,Ev.ak];exact u1
  |bk=>
   simp only[fK]at t2;subst t2;simp only at e;cases e;refine⟨.nx,jN,M2,h2,S2,?_,rfl,o2⟩;simp only[Ev.forL];rw[mD Ir,t1,Ev.ak]
  |ret x=>
   simp only[fK]at t2;obtain⟨d2,rfl,t2⟩:=t2;simp only at e;cases e;refine⟨.ret d2,jN,M2,h2,S2,?_,⟨d2,rfl,t2⟩,o2⟩;simp only[Ev.forL];rw[mD Ir,t1,Ev.ak]
def OV{t:T}{it:It}{b:Ss}(ib:rJ P P' w b):om P P' w (.for t it b):=λ{fr g af M B h S aj} z f=>by
 simp only[ex]at z;replace z:=ah z;obtain⟨vs,ao,z1,z⟩:=z;obtain⟨M1,S1,o1⟩:=f.walk (itv it);obtain⟨s,h2,S2,e1,q1,q2,o2⟩:=kF HP it z1 o1.f;have o3:=o1.trans f o2.s;obtain⟨g',bz,M',h',S',u1,u2,u3⟩:=tO (F':=λd ao h2=>match Ev.bJ t d ao with
   |some bR=>Ev.exs P' w b bR h2
   |none=>.bad) (ck:=s.2) o2.f (λq hq=>⟨(q2 q hq).1,(q2 q hq).2 rfl⟩) (λv d fr g af M h S aj y f q=>by
  split at y
  .rename_i bR y1;obtain⟨iD,b1,b2,b3,b4⟩:=f.bJ y1 q;rw[b1];obtain⟨g',bz,M',h',S',c1,c2,c3⟩:=ib y b2;exact⟨g',bz,M',h',S',c1,c2,(⟨b2,(cX.refl b2).tr,b3,b4⟩:cX M _ h S fr aj M h S bR iD).trans f c3⟩
  .cases y) z (cX.refl o2.f) q1
 refine⟨g',bz,M',h',S',?_,u2,o3.trans f u3⟩;simp only[Ev.ex,e1,Ev.ak];exact u1
theorem w9{t:E}{b:Ss}(ib:rJ P P' w b):∀(n:Nat) {fr:Fr}{g:Fl}{af:Fr}{M B:Nat->Prop}{h:Hh}{S:Nat->Prop}{aj:Ev.Fr},di (λao=>aH P t ao) (λao=>exs P w b ao) n fr=.ok g af->bh M B h S fr aj->
  ∃g' bz M' h' S',Ev.di (λao h2=>Ev.aH P' t ao h2) (λao h2=>Ev.exs P' w b ao h2) n aj h=.ok (g',bz) h'/\fK h' S' g g'/\cX M B h S fr aj M' h' S' af bz
 |0,_,_,_,_,_,_,_,_,z,_=>by simp only[di]at z;cases z
 |n+1,fr,g,af,M,B,h,S,aj,z,f=>by
  simp only[di]at z;replace z:=ah z;obtain⟨k,ao,z1,z⟩:=z;obtain⟨h1,S1,e1,o1⟩:=fU HP t z1 f;cases k with
  |false=>
   simp only[aap,aa2]at z;cases z;refine⟨.nx,aj,M,h1,S1,?_,rfl,o1.s⟩;simp only[Ev.di,e1,Ev.ak];rw[Yv (by decide)]
  |true=>
   simp only[aan]at z;replace z:=ah z;obtain⟨p,bR,z2,z⟩:=z;obtain⟨g',iD,M2,h2,S2,t1,t2,t3⟩:=ib z2 o1.f;have o2:=o1.s.trans f t3;cases p with
   |nx=>
    simp only[fK]at t2;subst t2;simp only at z;obtain⟨rK,Gd,M3,h3,S3,u1,u2,u3⟩:=w9 ib n z t3.f;refine⟨rK,Gd,M3,h3,S3,?_,u2,o2.trans f u3⟩;simp only[Ev.di,e1,Ev.ak,aan,t1];exact u1
   |ct=>
    simp only[fK]at t2;subst t2;simp only at z;obtain⟨rK,Gd,M3,h3,S3,u1,u2,u3⟩:=w9 ib n z t3.f;refine⟨rK,Gd,M3,h3,S3,?_,u2,o2.trans f u3⟩;simp only[Ev.di,e1,Ev.ak,aan,t1];exact u1
   |bk=>
    simp only[fK]at t2;subst t2;simp only at z;cases z;refine⟨.nx,iD,M2,h2,S2,?_,rfl,o2⟩;simp only[Ev.di,e1,Ev.ak,aan,t1]
   |ret x=>
    simp only[fK]at t2;obtain⟨d2,rfl,t2⟩:=t2;simp only at z;cases z;refine⟨.ret d2,iD,M2,h2,S2,?_,⟨d2,rfl,t2⟩,o2⟩;simp only[Ev.di,e1,Ev.ak,aan,t1]
def OW{t:E}{a b:Ss}(ia:rJ P P' w a)(ib:rJ P P' w b):om P P' w (.iff t a b):=λ{fr g af M B h S aj} z f=>by
 simp only[ex]at z;replace z:=ah z;obtain⟨k,ao,z1,z⟩:=z;obtain⟨h1,S1,e1,o1⟩:=fU HP t z1 f;cases k with
 |true=>
  simp only[aan]at z;obtain⟨g',bz,M',h',S',c1,c2,c3⟩:=ia z o1.f;exact⟨g',bz,M',h',S',by simp only[Ev.ex,e1,Ev.ak,aan,c1],c2,o1.s.trans f c3⟩
 |false=>
  simp only[aap,aa2]at z;obtain⟨g',bz,M',h',S',c1,c2,c3⟩:=ib z o1.f;exact⟨g',bz,M',h',S',by simp only[Ev.ex,e1,Ev.ak];rw[Yv (by decide)];exact c1,c2,o1.s.trans f c3⟩
noncomputable def xg(P':Ev.aL):Prop:=∀f ds h d h',P' (f+Ev.xo) ds h=.ok d h'->P' f ds h=.bad
def RX(HE:xg P'){g kk:Nat}{es:Es}:om P P' w (.tr g kk es):=λ{fr _ af M B h S aj} z f=>by
 simp only[ex]at z;replace z:=ah z;obtain⟨as,ao,z1,z⟩:=z;obtain⟨ds,h1,S1,e1,q1,o1⟩:=oh HP es z1 f;split at z
 case isFalse=>cases z
 split at z
 .rename_i v bR y;cases z;obtain⟨d,h2,S2,e2,q2,o2⟩:=qu HP y o1.f q1;exact⟨.ret d,aj,M,h2,S2,by simp only[Ev.ex,e1,Ev.ak,e2,Ev.tryD],⟨d,rfl,q2⟩,(o1.trans o2).s⟩
 .replace z:=ah z;obtain⟨c,bR,z2,z⟩:=z;replace z:=aM z;obtain⟨z,rfl⟩:=z;obtain⟨d,h2,S2,e2,q2,o2⟩:=qu HP z2 o1.f q1;have e3:=HE _ _ _ _ _ e2;cases c with
  |int c=>
   simp only[Rep]at q2;subst q2;simp only[Bo]at z;split at z
   case isFalse=>cases z
   rename_i hc;cases z;refine⟨.ret (.tup [.str [114,101,102,117,115,101,100],.int c]),aj,M,h2,S2,by simp only[Ev.ex,e1,Ev.ak,e2,e3,Ev.tryD,Ev.Fb,mD hc,Ev.dh],⟨_,rfl,?_⟩,(o1.trans o2).s⟩;simp[Rep,au]
  |_=>cases z
mutual
theorem Iu(HE:xg P'):∀s:S,om P P' w s
 |.set _ _=>KW HP
 |.iA _ _=>KY HP
 |.exp _=>OT HP
 |.ret _=>OU HP
 |.iff _ a b=>OW HP (ji HE a) (ji HE b)
 |.for _ _ b=>OV HP (ji HE b)
 |.tr _ _ _=>RX HP HE
 |.jU _ b=>λz f=>by
  simp only[ex]at z;obtain⟨g',bz,M',h',S',c1,c2,c3⟩:=w9 HP (ji HE b) w z f;exact⟨g',bz,M',h',S',by simp only[Ev.ex];exact c1,c2,c3⟩
 |.eU _=>λz _=>by simp only[ex]at z;cases z
theorem ji(HE:xg P'):∀s:Ss,rJ P P' w s
 |.nil=>λz f=>by simp only[exs]at z;cases z;exact⟨.nx,_,_,_,_,by simp only[Ev.exs],rfl,.refl f⟩
 |.cons s ss=>λz f=>by
  simp only[exs]at z;replace z:=ah z;obtain⟨p,ao,z1,z⟩:=z;obtain⟨g',jN,M2,h2,S2,t1,t2,t3⟩:=Iu HE s z1 f;cases p with
  |nx=>
   simp only[fK]at t2;subst t2;simp only at z;obtain⟨rK,iD,M3,h3,S3,u1,u2,u3⟩:=ji HE ss z t3.f;exact⟨rK,iD,M3,h3,S3,by simp only[Ev.exs,t1,Ev.ak,u1],u2,t3.trans f u3⟩
  |ct=>
   simp only[fK]at t2;subst t2;simp only at z;cases z;exact⟨.ct,jN,M2,h2,S2,by simp only[Ev.exs,t1,Ev.ak],rfl,t3⟩
  |bk=>
   simp only[fK]at t2;subst t2;simp only at z;cases z;exact⟨.bk,jN,M2,h2,S2,by simp only[Ev.exs,t1,Ev.ak],rfl,t3⟩
  |ret x=>
   simp only[fK]at t2;obtain⟨d2,rfl,t2⟩:=t2;simp only at z;cases z;exact⟨.ret d2,jN,M2,h2,S2,by simp only[Ev.exs,t1,Ev.ak],⟨d2,rfl,t2⟩,t3⟩
end
end
structure g6(M:Nat->Prop)(h h':Hh):Prop where
 len:h.length<=h'.length
 keep:∀m,m<h.length->¬ M m->h'[m]?=h[m]?
inductive kG(c:Nat)(M:Nat->Prop)(h:Hh)(r:Ev.XR):Prop
 |mk (h':Hh) (e:r=some (c,h')) (k:g6 M h h'):kG c M h r
noncomputable def rL(X:cA)(X':Ev.cA):Prop:=∀f sl c,X f sl=some c->∀(h:Hh) (S B:Nat->Prop) (ds:List D),bh B B h S (sl.map some) (ds.map some)->kG c B h (X' f ds h)
def g6.after{M M1 B:Nat->Prop}{h h1 h2:Hh}{S S1:Nat->Prop}{fr af:Fr}{aj bz:Ev.Fr}(o:cX M B h S fr aj M1 h1 S1 af bz)(r:g6 M1 h1 h2):g6 M h h2:=⟨aaf o.tr.len r.len,λm y1 y2=>by
 rw[r.keep m (xT y1 o.tr.len) (λz=>by
  rcases o.tr.tN m z with z|z
  .exact y2 z
  .omega),o.tr.keep m y1 y2]⟩
section
variable{P:aL}{P':Ev.aL}{X:cA}{X':Ev.cA}{w:Nat}(HP:pe P P')(HE:xg P')(HX:rL X X')(HB:∀f ds h r,X' f ds h=some r->P' f ds h=.bad)
include HP HX HB
mutual
theorem mV:∀(e:E) {fr:Fr}{c:Nat}{M B:Nat->Prop}{h:Hh}{S:Nat->Prop}{aj:Ev.Fr},xe P X e fr=some c->bh M B h S fr aj->kG c M h (Ev.xe P' X' e aj h)
 |.cl g es,fr,c,M,B,h,S,aj,z,f=>by
  simp only[xe]at z;simp only[Ev.xe];split at z
  .rename_i as af y;obtain⟨ds,h1,S1,e1,q1,o1⟩:=oh HP es y f;rw[e1];unfold o9 at z;split at z
   case isFalse=>cases z
   rename_i nd;rw[V4]at z;obtain⟨sl,z1,z2⟩:=z;obtain⟨h2,e2,k⟩:=HX _ _ _ z2 h1 S1 _ ds (zI o1.f nd z1 q1);exact⟨h2,e2,g6.after o1.s ⟨k.len,λm y1 y2=>k.keep m y1 λz=>y2 (LB.m o1.f m z)⟩⟩
  .obtain⟨h2,e2,k⟩:=xj es z f;rw[Ev.vV HB es e2];exact⟨h2,e2,k⟩
 |.ix a b,fr,c,M,B,h,S,aj,z,f=>by
  simp only[xe]at z;simp only[Ev.xe];exact mV a z f
 |.me m o es,fr,c,M,B,h,S,aj,z,f=>by
  simp only[xe]at z;split at z
  case isFalse=>cases z
  rename_i hm;split at z
  case h_2=>cases z
  rename_i i hi;cases o with
  |v j=>
   simp only[gG]at hi;split at hi
   case isFalse=>cases hi
   rename_i hl;cases hi;obtain⟨s,hs⟩:=Option.isSome_iff_exists.mp hl;obtain⟨n,ds,l,o,k1,k2,k3,k4,k5⟩:=iM hs f;simp only[Ev.xe,Ev.ev,k2];have e0:Ev.qX m (.ref n) h=true:=by
    have:bx h n=some ds:=by unfold bx;rw[k3]
    cases m<;>first | (simp[Ev.qX,this];done)|cases hm
   simp only[Option.join,Option.bind,id,Ev.dh];rw[mD e0];exact DK es z f
  |_=>cases hi
 |.c _,_,_,_,_,_,_,_,z,_=>nomatch z|.v _,_,_,_,_,_,_,_,z,_=>nomatch z|.tup _,_,_,_,_,_,_,_,z,_=>nomatch z|.lst _,_,_,_,_,_,_,_,z,_=>nomatch z
 |.bin _ _ _,_,_,_,_,_,_,_,z,_=>nomatch z|.cmp _ _ _,_,_,_,_,_,_,_,z,_=>nomatch z
 |.nt _,_,_,_,_,_,_,_,z,_=>nomatch z|.neg _,_,_,_,_,_,_,_,z,_=>nomatch z|.an _ _,_,_,_,_,_,_,_,z,_=>nomatch z|.orr _ _,_,_,_,_,_,_,_,z,_=>nomatch z|.iX _ _ _,_,_,_,_,_,_,_,z,_=>nomatch z
 |.sl _ _ _,_,_,_,_,_,_,_,z,_=>nomatch z
 |.jS _,_,_,_,_,_,_,_,z,_=>nomatch z
 |.fh _ _,_,_,_,_,_,_,_,z,_=>nomatch z
 |.bi _ _,_,_,_,_,_,_,_,z,_=>nomatch z
 |.comp _ _ _ _,_,_,_,_,_,_,_,z,_=>nomatch z|.gU _,_,_,_,_,_,_,_,z,_=>nomatch z
 |.gY _ _,_,_,_,_,_,_,_,z,_=>nomatch z|.gy _,_,_,_,_,_,_,_,z,_=>nomatch z
 |.jT _,_,_,_,_,_,_,_,z,_=>nomatch z|.ku _ _,_,_,_,_,_,_,_,z,_=>nomatch z
theorem xj:∀(es:Es) {fr:Fr}{c:Nat}{M B:Nat->Prop}{h:Hh}{S:Nat->Prop}{aj:Ev.Fr},wR P X es fr=some c->bh M B h S fr aj->kG c M h (Ev.xa P' X' es aj h)
 |.nil,_,_,_,_,_,_,_,z,_=>nomatch z
 |.cons e es,fr,c,M,B,h,S,aj,z,f=>by
  simp only[wR]at z;simp only[Ev.xa];split at z
  .rename_i i hi;cases e with
   |v j=>
    simp only[gG]at hi;split at hi
    case isFalse=>cases hi
    rename_i hl;cases hi;obtain⟨s,hs⟩:=Option.isSome_iff_exists.mp hl;obtain⟨n,ds,l,o,k1,k2,k3,k4,k5⟩:=iM hs f;simp only[Ev.ev,k2,Option.join,Option.bind,id,Ev.dh];exact xj es z f
   |_=>cases hi
  .split at z
   .rename_i y;obtain⟨d,h1,S1,e1,q1,o1⟩:=aZ HP e y f;rw[e1];obtain⟨h2,e2,k⟩:=xj es z o1.f;exact⟨h2,e2,g6.after o1.s k⟩
   .obtain⟨h2,e2,k⟩:=mV e z f;rw[(Ev.eV HB e e2).1];exact⟨h2,e2,k⟩
theorem DK:∀(es:Es) {k:Bool}{fr:Fr}{c:Nat}{M B:Nat->Prop}{h:Hh}{S:Nat->Prop}{aj:Ev.Fr},zB P X k es fr=some c->bh M B h S fr aj->kG c M h (Ev.xa P' X' es aj h)
 |.nil,_,_,_,_,_,_,_,_,z,_=>nomatch z
 |.cons e es,k,fr,c,M,B,h,S,aj,z,f=>by
  simp only[zB]at z;simp only[Ev.xa];split at z
  .rename_i y;obtain⟨d,h1,S1,e1,q1,o1⟩:=aZ HP e y f;rw[e1];obtain⟨h2,e2,k⟩:=DK es z o1.f;exact⟨h2,e2,g6.after o1.s k⟩
  .obtain⟨h2,e2,k⟩:=mV e z f;rw[(Ev.eV HB e e2).1];exact⟨h2,e2,k⟩
end
omit HP HX HB in
theorem zO{f:V->Fr->R Fl}{g:V->Fr->Option Nat}{f':D->Ev.Fr->Hh->Ev.R (Ev.Fl×Ev.Fr)}{g':D->Ev.Fr->Hh->Ev.XR}{ck:List (Nat×List D)}{B:Nat->Prop}
  (hf:∀{v d fr fl af M h S aj},f v fr=.ok fl af->bh M B h S fr aj->Rep h S v d->∃gl bz M' h' S',f' d aj h=.ok (gl,bz) h'/\fK h' S' fl gl/\cX M B h S fr aj M' h' S' af bz)
  (hg:∀{v d fr c M h S aj},g v fr=some c->bh M B h S fr aj->Rep h S v d->kG c M h (g' d aj h)) (hb:∀d fr h r,g' d fr h=some r->f' d fr h=.bad) :
  ∀(vs:List V) {ds:List D} {fr:Fr} {c:Nat} {M:Nat->Prop} {h:Hh} {S:Nat->Prop} {aj:Ev.Fr},fP f g vs fr=some c->bh M B h S fr aj->au h S vs ds->(∀q∈ck,bx h q.1=some q.2/\¬ M q.1)->kG c M h (Ev.fP f' g' ck ds aj h)
 |[],_,_,_,_,_,_,_,z,_,_,_=>nomatch z
 |v :: vs,ds,fr,c,M,h,S,aj,z,f0,q,st=>by
  simp only[au]at q;obtain⟨d,es,rfl,q1,q2⟩:=q;simp only[fP]at z;simp only[Ev.fP];rw[mD (ju λq hq=>(st q hq).1)];have go:∀{af:Fr} {bz:Ev.Fr} {M1:Nat->Prop} {h1:Hh} {S1:Nat->Prop},fP f g vs af=some c->cX M B h S fr aj M1 h1 S1 af bz->kG c M h (Ev.fP f' g' ck es bz h1):=λ{af bz M1 h1 S1} z1 o=>by
   obtain⟨h2,e2,k⟩:=zO hf hg hb vs z1 o.f (q2.mono (λm y=>o.tr.keep m (f0.wS m y).1 (f0.wS m y).2.1) o.tr.sub) (λq hq=>⟨kE (st q hq).1 (o.tr.keep _ (mh (st q hq).1) (st q hq).2),λy=>by
    rcases o.tr.tN _ y with y|y
    .exact(st q hq).2 y
    .have:=mh (st q hq).1;omega⟩)
   exact⟨h2,e2,g6.after o k⟩
  split at z
  .rename_i y;obtain⟨gl,bz,M1,h1,S1,t1,t2,t3⟩:=hf y f0 q1;simp only[fK]at t2;subst t2;rw[t1];exact go z t3
  .rename_i y;obtain⟨gl,bz,M1,h1,S1,t1,t2,t3⟩:=hf y f0 q1;simp only[fK]at t2;subst t2;rw[t1];exact go z t3
  .cases z
  .obtain⟨h2,e2,k⟩:=hg z f0 q1;rw[hb _ _ _ _ e2];exact⟨h2,e2,k⟩
include HE
mutual
theorem RY:∀(s:S) {fr:Fr}{c:Nat}{M B:Nat->Prop}{h:Hh}{S:Nat->Prop}{aj:Ev.Fr},xs P X w s fr=some c->bh M B h S fr aj->kG c M h (Ev.xs P' X' w s aj h)
 |.eU c,fr,_,M,B,h,S,aj,z,f=>by
  simp only[xs]at z;cases z;exact⟨h,rfl,Ad _,λ_ _ _=>rfl⟩
 |.set i e,fr,c,M,B,h,S,aj,z,f=>by
  simp only[xs]at z;simp only[Ev.xs];exact mV HP HX HB e z f
 |.exp e,fr,c,M,B,h,S,aj,z,f=>by
  simp only[xs]at z;simp only[Ev.xs];exact mV HP HX HB e z f
 |.ret e,fr,c,M,B,h,S,aj,z,f=>by
  simp only[xs]at z;simp only[Ev.xs];obtain⟨M1,S1,o⟩:=f.eF;obtain⟨h2,e2,k⟩:=mV HP HX HB e z o.f;exact⟨h2,e2,g6.after o k⟩
 |.iff t a b,fr,c,M,B,h,S,aj,z,f=>by
  simp only[xs]at z;simp only[Ev.xs];split at z
  .rename_i k af y;obtain⟨h1,S1,e1,o1⟩:=fU HP t y f;rw[e1];cases k with
   |true=>
    obtain⟨h2,e2,k⟩:=mj a (by simpa using z) o1.f;exact⟨h2,by simpa using e2,g6.after o1.s k⟩
   |false=>
    obtain⟨h2,e2,k⟩:=mj b (by simpa using z) o1.f;exact⟨h2,by simpa using e2,g6.after o1.s k⟩
  .obtain⟨h2,e2,k⟩:=mV HP HX HB t z f;rw[(Ev.eV HB t e2).2];exact⟨h2,e2,k⟩
 |.for t it b,fr,c,M,B,h,S,aj,z,f=>by
  simp only[xs]at z;simp only[Ev.xs];split at z
  case h_2=>cases z
  rename_i vs af y;obtain⟨M0,S0,o0⟩:=f.walk (itv it);obtain⟨s,h1,S1,e1,q1,q2,o1⟩:=kF HP it y o0.f;rw[e1];have o2:=o0.trans f o1.s;obtain⟨h2,e2,k⟩:=zO (B:=B) (ck:=s.2) (f':=λd ao h2=>match Ev.bJ t d ao with|some bR=>Ev.exs P' w b bR h2|none=>.bad) (g':=λd ao h2=>match Ev.bJ t d ao with|some bR=>Ev.xss P' X' w b bR h2|none=>none)
   (λ{v d fr fl af M h S aj} y1 f1 r1=>by
    split at y1
    .rename_i bR e3;obtain⟨iD,b1,b2,b3,b4⟩:=f1.bJ e3 r1;rw[b1];obtain⟨g',bz,M',h',S',c1,c2,c3⟩:=ji HP HE b y1 b2;exact⟨g',bz,M',h',S',c1,c2,(⟨b2,(cX.refl b2).tr,b3,b4⟩:cX M _ h S fr aj M h S bR iD).trans f1 c3⟩
    .cases y1)
   (λ{v d fr c M h S aj} y1 f1 r1=>by
    split at y1
    .rename_i bR e3;obtain⟨iD,b1,b2,b3,b4⟩:=f1.bJ e3 r1;rw[b1];exact mj b y1 b2
    .cases y1)
   (λd fr h r y1=>by
    split at y1
    .rename_i e3;exact Ev.dj HB b y1
    .cases y1) vs z o2.f q1 (λq hq=>⟨(q2 q hq).1,(q2 q hq).2 rfl⟩)
  exact⟨h2,e2,g6.after o2 k⟩
 |.jU t b,fr,c,M,B,h,S,aj,z,f=>by
  simp only[xs]at z;simp only[Ev.xs];have go:∀(n:Nat) {fr:Fr} {M:Nat->Prop} {h:Hh} {S:Nat->Prop} {aj:Ev.Fr},gz (λao=>aH P t ao) (λao=>exs P w b ao) (λao=>xss P X w b ao) n fr=some c->bh M B h S fr aj->kG c M h (Ev.gz (λao h2=>Ev.aH P' t ao h2) (λao h2=>Ev.exs P' w b ao h2) (λao h2=>Ev.xss P' X' w b ao h2) n aj h):=λn=>by
   induction n with
   |zero=>intro _ _ _ _ _ z _;cases z
   |succ n ih=>
    intro fr M h S aj z f;simp only[gz]at z;simp only[Ev.gz];split at z
    case h_2=>cases z
    rename_i af y;obtain⟨h1,S1,e1,o1⟩:=fU HP t y f;rw[e1];simp only;split at z
    .rename_i y2;obtain⟨gl,jN,M2,h2,S2,t1,t2,t3⟩:=ji HP HE b y2 o1.f;simp only[fK]at t2;subst t2;rw[t1];obtain⟨h3,e3,k⟩:=ih z t3.f;exact⟨h3,e3,g6.after (o1.s.trans f t3) k⟩
    .rename_i y2;obtain⟨gl,jN,M2,h2,S2,t1,t2,t3⟩:=ji HP HE b y2 o1.f;simp only[fK]at t2;subst t2;rw[t1];obtain⟨h3,e3,k⟩:=ih z t3.f;exact⟨h3,e3,g6.after (o1.s.trans f t3) k⟩
    .cases z
    .obtain⟨h3,e3,k⟩:=mj b z o1.f;rw[Ev.dj HB b e3];exact⟨h3,e3,g6.after o1.s k⟩
  exact go w z f
 |.iA _ _,_,_,_,_,_,_,_,z,_=>nomatch z
 |.tr _ _ _,_,_,_,_,_,_,_,z,_=>nomatch z
theorem mj:∀(s:Ss) {fr:Fr}{c:Nat}{M B:Nat->Prop}{h:Hh}{S:Nat->Prop}{aj:Ev.Fr},xss P X w s fr=some c->bh M B h S fr aj->kG c M h (Ev.xss P' X' w s aj h)
 |.nil,_,_,_,_,_,_,_,z,_=>nomatch z
 |.cons s ss,fr,c,M,B,h,S,aj,z,f=>by
  simp only[xss]at z;simp only[Ev.xss];split at z
  .rename_i y;obtain⟨gl,jN,M2,h2,S2,t1,t2,t3⟩:=Iu HP HE s y f;simp only[fK]at t2;subst t2;rw[t1];obtain⟨h3,e3,k⟩:=mj ss z t3.f;exact⟨h3,e3,g6.after t3 k⟩
  .cases z
  .obtain⟨h3,e3,k⟩:=RY s z f;rw[Ev.nP HB s e3];exact⟨h3,e3,k⟩
end
end
theorem tP{h:Hh}{S:Nat->Prop}{B:Nat->Prop}{h0:Hh}{S0:Nat->Prop}:∀{sl:List Sl}{ds:List D}{cs:Fr},sl.length=ds.length->
  (∀(a:Nat) s d,sl[a]?=some s->ds[a]?=some d->lT B B h0 S0 (some s) (some d)/\locked cs a=zG (some s)/\(zG (some s)=true->∃m es l s',d=.ref m/\h[m]?=some (.lst es)/\au h S l es/\cs[a]?=some (some s')/\s'.out=some l))->lM h S sl ds ((cs.take sl.length).filterMap λo=>o.bind Sl.out)
 |[],ds,cs,_,_=>by simp[lM]
 |s :: sl,[],cs,hl,_=>by simp at hl
 |s :: sl,d :: ds,[],hl,q=>by
  have ih:=tP (h:=h) (S:=S) (sl:=sl) (ds:=ds) (cs:=[]) (by simpa using hl) λa s' d' e1 e2=>by
   obtain⟨w1,w2,w3⟩:=q (a+1) s' d' (by simpa using e1) (by simpa using e2);exact⟨w1,by simpa[locked]using w2,λz=>by obtain⟨_,_,_,_,_,_,_,y,_⟩:=w3 z;simp at y⟩
  obtain⟨w1,w2,w3⟩:=q 0 s d (by simp) (by simp);cases s with
  |val v=>simp at ih ⊢;exact⟨d,ds,rfl,ih⟩
  |own l=>exact absurd w1 (by rintro⟨m,es,e,q,_⟩;exact q.2 q.1)
  |bor l=>obtain⟨_,_,_,_,_,_,_,y,_⟩:=w3 rfl;simp at y
  |ro l=>obtain⟨_,_,_,_,_,_,_,y,_⟩:=w3 rfl;simp at y
 |s :: sl,d :: ds,o :: cs,hl,q=>by
  have ih:=tP (h:=h) (S:=S) (sl:=sl) (ds:=ds) (cs:=cs) (by simpa using hl) λa s' d' e1 e2=>by
   obtain⟨w1,w2,w3⟩:=q (a+1) s' d' (by simpa using e1) (by simpa using e2);exact⟨w1,by simpa[locked]using w2,λz=>by simpa using w3 z⟩
  obtain⟨w1,w2,w3⟩:=q 0 s d (by simp) (by simp);cases s with
  |val v=>
   have:o.bind Sl.out=none:=by
    simp[locked]at w2;rcases o with _|s
    .rfl
    .cases s<;>first|rfl|cases w2
   simp only[aai,aa0,aaH,this];exact⟨d,ds,rfl,ih⟩
  |own l=>exact absurd w1 (by rintro⟨m,es,e,q,_⟩;exact q.2 q.1)
  |bor l=>
   obtain⟨m,es,l',s',a1,a2,a3,a4,a5⟩:=w3 rfl;simp at a4;subst a4;simp only[aai,aa0,aaH,Option.bind,a5];exact⟨d,ds,l',_,m,es,rfl,rfl,a1,a2,a3,ih⟩
  |ro l=>
   obtain⟨m,es,l',s',a1,a2,a3,a4,a5⟩:=w3 rfl;simp at a4;subst a4;simp only[aai,aa0,aaH,Option.bind,a5];exact⟨d,ds,l',_,m,es,rfl,rfl,a1,a2,a3,ih⟩
def DL{fn:Fn}{sl:List Sl}{ds:List D}{B:Nat->Prop}{h:Hh}{S:Nat->Prop}(F0:bh B B h S (sl.map some) (ds.map some))(hlen:sl.length=ds.length):bh B B h S (dM fn sl) (Ev.dM fn ds):=by
 unfold dM Ev.dM;have sp:∀(i:Nat) o,(sl.map some++List.replicate (fn.ns - fn.np) none)[i]?=some o->(sl.map some)[i]?=some o\/(sl.length<=i/\o=none):=λi o y=>by
  by_cases hi:i<sl.length
  .rw[UK (by simpa using hi)]at y;exact .inl y
  .rw[aaN (by simpa using hi)]at y;have:=aal y;exact .inr ⟨by omega,(List.mem_replicate.mp this).2⟩
 have lo:∀(i:Nat) p,i<sl.length->(ds.map some++List.replicate (fn.ns - fn.np) none)[i]?=some p->(ds.map some)[i]?=some p:=λi p hi y=>by
  rw[UK (by simpa[<-hlen]using hi)]at y;exact y
 refine⟨F0.wS,F0.wM,F0.wB,by simp[hlen],λi o p y1 y2=>?_,λi j o o' m y1 y2 y3 y4 y5 y6=>?_⟩
 .rcases sp i o y1 with y1|⟨hi,rfl⟩
  .have hi:i<sl.length:=by have:=(List.getElem?_eq_some_iff.mp y1).1;simpa using this
   exact F0.sl i o p y1 (lo i p hi y2)
  .rw[aaN (by simpa[<-hlen]using hi)]at y2;have:=aal y2;exact(List.mem_replicate.mp this).2
 .rcases sp i o y1 with y1|⟨hi,rfl⟩
  .rcases sp j o' y2 with y2|⟨hj,rfl⟩
   .have hi:i<sl.length:=by have:=(List.getElem?_eq_some_iff.mp y1).1;simpa using this
    have hj:j<sl.length:=by have:=(List.getElem?_eq_some_iff.mp y2).1;simpa using this
    exact F0.inj i j o o' m y1 y2 y3 y4 (lo i _ hi y5) (lo j _ hj y6)
   .cases y4
  .cases y3
def KZ{F:List Fn}(hF:F.length<=Ev.xo)(w n:Nat):xg (Ev.run F w n):=λf ds h d h' e=>by
 cases n with
 |zero=>cases e
 |succ n=>
  rw[Ev.gf,aaw (by omega)]at e;simp only[Ev.ni]at e;rw[mD (by omega),abC]at e;split at e
  .rename_i z;exact Ev.qi F w _ _ _ _ _ z
  .cases e
def OX{X:cA}{X':Ev.cA}(HX:rL X X'){f:Nat}{sl:List Sl}{v:V}{os:List (List V)}(e:ni X f sl=some (v,os)){h:Hh}{S B:Nat->Prop}{ds:List D}(F0:bh B B h S (sl.map some) (ds.map some)) :
  ∃d h' S',Ev.ni X' f ds h=.ok d h'/\Rep h' S' v d/\Tk B h S h' S'/\lM h' S' sl ds os:=by
 unfold ni at e;split at e
 case isFalse=>cases e
 rename_i hk;rw[gV]at e;obtain⟨c,e1,e2⟩:=e;cases e2;obtain⟨h',e3,k⟩:=HX _ _ _ e1 h S B ds F0;refine⟨.int c,h',S,by simp only[Ev.ni];rw[mD hk.1,e3],by simp[Rep],⟨k.len,k.keep,λ_ q=>q,λ_ q=>.inl q⟩,?_⟩;have hlen:sl.length=ds.length:=by have:=F0.len;simpa using this
 have:∀{sl:List Sl} {ds:List D},sl.length=ds.length->sl.all Sl.gG=true->lM h' S sl ds []:=λ{sl}=>by
  induction sl with
  |nil=>intro ds _ _;rfl
  |cons s sl ih=>
   intro ds hl ha;cases ds with
   |nil=>simp at hl
   |cons d ds=>
    simp only[acL,GY]at ha;cases s with
    |val v=>exact⟨d,ds,rfl,ih (by simpa using hl) ha.2⟩
    |_=>cases ha.1
 exact this hlen hk.2
theorem zP{F:List Fn}(hF:F.length<=Ev.xo)(w:Nat):∀n,pe (run F w n) (Ev.run F w n)/\rL (cj F w n) (Ev.cj F w n)
 |0=>⟨λf sl v os e=>(nomatch e),λf sl c e=>(nomatch e)⟩
 |n+1=>by
  obtain⟨HP,HX⟩:=zP hF w n;have HE:=KZ hF w n;have hx:rL (cj F w (n+1)) (Ev.cj F w (n+1)):=λf sl c e h S B ds F0=>by
   rw[jb]at e;rw[Ev.jb];cases z:F[f]? with
   |none=>rw[z]at e;cases e
   |some fn=>
    rw[z]at e;simp only at e ⊢;split at e
    case isFalse=>cases e
    rename_i hl;have hlen:sl.length=ds.length:=by have:=F0.len;simpa using this
    rw[mD (by omega)];exact mj HP HE HX (Ev.qi F w n) fn.body e (DL F0 hlen)
  refine⟨λf sl v os e h S B ds F0=>?_,hx⟩;rw[gf]at e;cases z:F[f]? with
  |none=>
   rw[z]at e;rw[Ev.gf,z];exact OX hx e F0
  |some fn=>
  rw[z]at e;simp only at e;split at e
  case isFalse=>cases e
  rename_i hl;have hlen:sl.length=ds.length:=by have:=F0.len;simpa using this
  have f1:bh B B h S (dM fn sl) (Ev.dM fn ds):=DL F0 hlen;have fin:∀{g:Fl} {af:Fr},exs (run F w n) w fn.body (dM fn sl)=.ok g af->∃g' bz M' h' S',Ev.exs (Ev.run F w n) w fn.body (Ev.dM fn ds) h=.ok (g',bz) h'/\fK h' S' g g'/\Tk B h S h' S'/\lM h' S' sl ds (outs fn.np af):=λ{g af} y=>by
   obtain⟨g',bz,M',h',S',c1,c2,c3⟩:=ji HP HE fn.body y f1;refine⟨g',bz,M',h',S',c1,c2,⟨c3.tr.len,λm y1 y2=>c3.tr.keep m y1 y2,c3.tr.sub,λm q=>?_⟩,?_⟩
   .rcases c3.tr.new m q with q|q|q
    .exact .inl q
    .exact .inr q
    .exact absurd q.1 q.2
   .unfold outs;rw[<-hl];refine tP (B:=B) (h0:=h) (S0:=S) hlen λa s d e1 e2=>?_;have ha:a<sl.length:=(List.getElem?_eq_some_iff.mp e1).1;have h0:(dM fn sl)[a]?=some (some s):=by unfold dM;rw[UK (by simpa using ha)];simp[e1]
    have hlk:locked af a=zG (some s):=by rw[c3.lk a];unfold locked;rw[h0]
    refine⟨F0.sl a _ _ (by simp[e1]) (by simp[e2]),hlk,λhk=>?_⟩;have hr:=c3.rf a (by unfold locked;rw[h0];exact hk);have hd:(Ev.dM fn ds)[a]?=some (some d):=by unfold Ev.dM;rw[UK (by simpa[<-hlen]using ha)];simp[e2]
    rw[hd]at hr;cases y2:af[a]? with
    |none=>unfold locked at hlk;rw[y2]at hlk;rw[<-hlk]at hk;cases hk
    |some o=>
     have sr:=c3.f.sl a _ _ y2 hr;unfold locked at hlk;rw[y2,hk]at hlk;rcases o with _|s'
     .cases hlk
     .cases s' with
      |val v=>cases hlk
      |own l=>cases hlk
      |bor l=>obtain⟨m,es,e,_,k1,k2⟩:=sr;cases e;exact⟨m,es,l,_,rfl,k1,k2,rfl,rfl⟩
      |ro l=>obtain⟨m,es,e,_,k1,k2⟩:=sr;cases e;exact⟨m,es,l,_,rfl,k1,k2,rfl,rfl⟩
  simp only[Ev.gf,z];have hl':ds.length=fn.np:=by omega
  rw[mD hl'];split at e
  .rename_i v' af y;cases e;obtain⟨g',bz,M',h',S',c1,c2,c3,c4⟩:=fin y;simp only[fK]at c2;obtain⟨d,rfl,c2⟩:=c2;exact⟨d,h',S',by simp only[Ev.endOf,c1,Ev.ak],c2,c3,c4⟩
  .rename_i af y;cases e;obtain⟨g',bz,M',h',S',c1,c2,c3,c4⟩:=fin y;simp only[fK]at c2;subst c2;exact⟨.aU,h',S',by simp only[Ev.endOf,c1,Ev.ak],rfl,c3,c4⟩
  .cases e
end Pv
namespace Pv
open Ev (D O Hh Fn)
def K0{F:List Fn}{w n f:Nat}{ns:List Int}(e:run F w n f [.val (.bY (ns.map V.int))]=some (.bl true,[]))(hF:F.length<=1000:=by decide):∃h',Ev.run F w n f [.ref 0] [.bY (ns.map D.int)]=.ok (.bl true) h':=by
 have F0:bh (λ_=>False) (λ_=>False) [O.bY (ns.map D.int)] (λm=>m=0) ([Sl.val (.bY (ns.map V.int))].map some) ([D.ref 0].map some):=by
  refine⟨λm q=>⟨by subst q;simp,id,id⟩,λm q=>q.elim,λm q=>q.elim,rfl,λi o p y1 y2=>?_,λi j o o' m y1 y2 y3 y4 y5 y6=>?_⟩
  .cases i with
   |zero=>
    simp at y1 y2;subst y1 y2;refine⟨.ref 0,rfl,?_⟩;simp only[Rep];exact⟨0,_,rfl,rfl,rfl,au.map (f:=V.int) (g:=D.int) (λ_=>by simp[Rep]) ns⟩
   |succ i=>simp at y1
  .cases i with
   |zero=>simp at y1;subst y1;cases y3
   |succ i=>simp at y1
 obtain⟨d,h',S',a,b,_,_⟩:=(zP hF w n).1 f _ _ _ e _ _ _ _ F0;simp only[Rep]at b;subst b;exact⟨h',a⟩
end Pv
namespace Pv
open Ev (D bw bq TY BI ME T E Es Eo It S Ss Fn big deep b2i rep bT cL bE aP cut bZ cJ slots)
def bX{n:Nat}(h:n<=100000):n<=big:=aaf h (by decide)
section
variable{i j:Int}{a b:List Nat}{x y:List V}{d e:V}{m n:Nat}{k l:Bool}
def fE(h:x.length<=big):eN x=some (.lst x):=by simp[eN,h]
def jI(h:x.length<=big):gD x=some (.tup x):=by simp[gD,h]
@[simp] theorem mW:eN []=some (.lst []):=fE (bX (by simp))
@[simp] theorem RZ:gD []=some (.tup []):=jI (bX (by simp))
@[simp] theorem kY{a}:eN [a]=some (.lst [a]):=fE (bX (by simp))
@[simp] theorem rM{a}:gD [a]=some (.tup [a]):=jI (bX (by simp))
@[simp] theorem R0{a b}:eN [a,b]=some (.lst [a,b]):=fE (bX (by simp))
@[simp] theorem eW{a b}:gD [a,b]=some (.tup [a,b]):=jI (bX (by simp))
@[simp] theorem Bq{a b c}:gD [a,b,c]=some (.tup [a,b,c]):=jI (bX (by simp))
@[simp] theorem cB:bD .add (.int i) (.int j)=some (.int (i+j)):=nd rfl
def kH(h:a.length+b.length<=100000):bD .add (.str a) (.str b)=some (.str (a++b)):=by delta bD;dsimp only;simp[bX h]
def xq(h:x.length+y.length<=100000):bD .add (.tup x) (.tup y)=some (.tup (x++y)):=by delta bD;dsimp only;simp[bX h]
def qv(h:x.length+y.length<=100000):bD .add (.lst x) (.lst y)=some (.lst (x++y)):=by delta bD;dsimp only;simp[fE (bX (show(x++y).length<=100000 by simpa using h))]
@[simp] theorem mX:bD .sub (.int i) (.int j)=some (.int (i - j)):=nd rfl
@[simp] theorem qw:bD .mul (.int i) (.int j)=if bT i j then some (.int (i*j))else none:=nd rfl
def Ge(h0:0<=j)(h1:j<=1000)(h2:a.length<=1000):bD .mul (.str a) (.int j)=some (.str (rep j.toNat a)):=by delta bD;dsimp only;simp[h0,h1,h2]
def xr(h0:0<=j)(h1:j<=1000)(h2:x.length<=1000)(h3:(rep j.toNat x).length<=100000):bD .mul (.lst x) (.int j)=some (.lst (rep j.toNat x)):=by delta bD;dsimp only;simp[h0,h1,h2,fE (bX h3)]
@[simp] theorem Gf:bD .fdiv (.int i) (.int j)=if 0<j/\j<1073741824 then some (.int (i / j))else none:=nd rfl
@[simp] theorem K1:bD .mod (.int i) (.int j)=if 0<j then some (.int (i % j))else none:=nd rfl
@[simp] theorem oq:cop .ne d e=(eE deep d e).map (!·):=nd rfl
@[simp] theorem OY:eE (n+1) (.int i) (.int j)=some (decide (i=j)):=by show some (i==j)=_;by_cases h:i=j<;>simp[h]
@[simp] theorem OZ:eE (n+1) (.str a) (.str b)=some (decide (a=b)):=by show some (a==b)=_;by_cases h:a=b<;>simp[h]
@[simp] theorem Yk:eE (n+1) (.str a) (.int i)=some false:=nd rfl
@[simp] theorem Yl:eE (n+1) (.int i) (.str a)=some false:=nd rfl
@[simp] theorem O0:eE (n+1) (.tup x) (.tup y)=b9 (eE n) x y:=nd rfl
@[simp] theorem zQ:eE deep (.int i) (.int j)=some (decide (i=j)):=OY
@[simp] theorem zR:eE deep (.str a) (.str b)=some (decide (a=b)):=OZ
@[simp] theorem zS:eE deep (.tup x) (.tup y)=b9 (eE (18+1)) x y:=nd rfl
@[simp] theorem K2:eE deep (.lst x) (.lst y)=b9 (eE (18+1)) x y:=nd rfl
@[simp] theorem WJ{f:V->V->Option Bool}:b9 f [] []=some true:=nd rfl
@[simp] theorem Ym{f:V->V->Option Bool}:b9 f [] (d :: x)=some false:=nd rfl
@[simp] theorem Yn{f:V->V->Option Bool}:b9 f (d :: x) []=some false:=nd rfl
@[simp] theorem VS{f:V->V->Option Bool}:b9 f (d :: x) (e :: y)=(f d e).bind λb=>(b9 f x y).bind λc=>some (b&&c):=nd rfl
theorem tQ{α:Type}[DecidableEq α]{f:V->V->Option Bool}{g:α->V}(h:∀a b,f (g a) (g b)=some (decide (a=b))):∀l m:List α,b9 f (l.map g) (m.map g)=some (decide (l=m))
 |[],[]=>by simp
 |[],_ :: _=>by simp
 |_ :: _,[]=>by simp
 |a :: l,b :: m=>by simp[h,tQ h l m]
@[simp] theorem tR:cY (.str a) (.int i)=(bE a i).map λc=>.str [c]:=nd rfl
@[simp] theorem gR:cY (.lst x) (.int i)=bE x i:=nd rfl
@[simp] theorem pg{lo hi:Option Int}:iZ (.str a) lo hi=some (.str (cut a lo hi)):=nd rfl
def abe(h:a.length<=100000):dz .len [.str a]=some (.int a.length):=by delta dz;dsimp only;simp[bX h]
@[simp] theorem K3:dz .len [.lst x]=some (.int x.length):=nd rfl
@[simp] theorem zT:dz .len [.bY x]=some (.int x.length):=nd rfl
@[simp] theorem K4:dz .sum [.lst x]=(intsOf x).map λis=>.int is.sum:=nd rfl
@[simp] theorem O1:dz .min [.int i,.int j]=some (.int (if j<i then j else i)):=nd rfl
@[simp] theorem O2{b:Bool}:dz .lE [.bl b]=some (.int (if b then 1 else 0)):=nd rfl
@[simp] theorem K5:toT (.lst x)=gD x:=nd rfl
def O3(h0:0<=j)(h1:j<=100000):fO [.int j]=some (range 0 j.toNat):=by
 simp only[fO];rw[mD ⟨by omega,by omega⟩]
def Br{α:Type}(g:α->Int)(l:List α):intsOf (l.map λx=>.int (g x))=some (l.map g):=by induction l<;>simp[intsOf, *]
def rN{α:Type}(g:α->List Nat)(l:List α):strsOf (l.map λx=>.str (g x))=some (l.map g):=by induction l<;>simp[strsOf, *]
theorem uX:∀l:List (List Nat),bZ [] l=l.flatten
 |[]=>rfl
 |[s]=>by simp[bZ]
 |s :: t :: r=>by simp[bZ,uX (t :: r)]
@[simp] theorem Yo:truthy (.bl k)=k:=nd rfl
@[simp] theorem WK:truthy (.lst x) = !x.isEmpty:=nd rfl
def Iv{l:List (List Nat)}(h:l.flatten.length<=100000):fq .join (.str []) [.lst (l.map V.str)]=some (.str l.flatten):=by
 have hs:=rN (λx=>x) l;have:(l.map (·.length)).sum<=big:=bX (by rw[<-List.length_flatten];exact h);simp only[List.map_id']at hs;have hs':strsOf (l.map V.str)=some l:=by simpa using rN (λx=>x) l
 delta fq;dsimp only;simp[pZ,hs',uX,this]
end
def ow{α:Type}{f:V->Option (Option V)}(e:α->V)(g:α->V)(l:List α)(h:∀a∈l,f (e a)=some (some (g a))):cK f (l.map e)=some (l.map g):=by
 induction l with
 |nil=>rfl
 |cons a l ih=>simp only[aaa,cK,h a (by simp),ih λu hu=>h u (by simp[hu]),Option.bind];rfl
def xu{α:Type}{f:V->Option (Option V)}(e:α->V)(p:α->Bool)(g:α->V)(l:List α)(h:∀a∈l,f (e a)=some (if p a then some (g a)else none)):cK f (l.map e)=some ((l.filter p).map g):=by
 induction l with
 |nil=>rfl
 |cons a l ih=>
  simp only[aaa,cK,h a (by simp),ih λu hu=>h u (by simp[hu]),Option.bind];cases z:p a<;>simp[z]
noncomputable def Wp{α:Type}(r:R α)(Q:α->Fr->Prop):Prop:=∃a h,r=.ok a h/\Q a h
section
variable{α β:Type}{Q Q':α->Fr->Prop}
@[simp] theorem rO(a:α)(h:Fr):Wp (.ok a h) Q=Q a h:=propext ⟨λ⟨_,_,e,q⟩=>by cases e;exact q,λq=>⟨_,_,rfl,q⟩⟩
@[simp] theorem Yp:Wp (.bad:R α) Q=False:=propext ⟨λq=>(by obtain⟨_,_,e,_⟩:=q;cases e),False.elim⟩
@[simp] theorem wp_bind(r:R β)(f:β->Fr->R α):Wp (r.bind f) Q=Wp r λa h=>Wp (f a h) Q:=by cases r<;>simp
def Wp.mono{r:R α}(h:Wp r Q)(f:∀a h,Q a h->Q' a h):Wp r Q':=by
 obtain⟨a,h',e,q⟩:=h;exact⟨a,h',e,f a h' q⟩
end
noncomputable def fl(I Q:Fr->Prop)(X:V->Fr->Prop):Fl->Fr->Prop
 |.nx,fr=>I fr
 |.ct,fr=>I fr
 |.bk,fr=>Q fr
 |.ret v,fr=>X v fr
section
variable{I J:Fr->Prop}{X:V->Fr->Prop}{fr:Fr}
@[simp] theorem dR:fl I J X .nx fr=I fr:=nd rfl
end
theorem fF{α:Type}{e:α->V}{f:V->Fr->R Fl}{Q:Fl->Fr->Prop}(I:List α->List α->Fr->Prop)(turn:∀p a l fr,I p (a :: l) fr->Wp (f (e a) fr) (fl (I (p++[a]) l) (Q .nx) λv=>Q (.ret v)))(fin:∀p fr,I p [] fr->Q .nx fr):∀(l p:List α) (fr:Fr),I p l fr->Wp (forL f (l.map e) fr) Q
 |[],p,fr,i=>by simp only[abA,forL,rO];exact fin p fr i
 |a :: l,p,fr,i=>by
  simp only[aaa,forL,wp_bind];refine(turn p a l fr i).mono λg h2 q=>?_;cases g with
  |nx=>exact fF I turn fin l _ h2 q
  |ct=>exact fF I turn fin l _ h2 q
  |bk=>exact(rO _ _).mpr q
  |ret x=>exact(rO _ _).mpr q
def zU{f:V->Fr->R Fl}{Q:Fl->Fr->Prop}{lo:Int}{N:Nat}(I:Nat->Fr->Prop)(turn:∀(k:Nat) fr,k<N->I k fr->Wp (f (.int (lo+(k:Nat))) fr) (fl (I (k+1)) (Q .nx) λv=>Q (.ret v)))(fin:∀fr,I N fr->Q .nx fr){fr:Fr}(i:I 0 fr):Wp (forL f (range lo N) fr) Q:=by
 have h:=fF (e:=λ(k:Nat)=>V.int (lo+k)) (f:=f) (Q:=Q) (λp l fr=>∃k,k<=N/\p=List.range k/\p++l=List.range N/\I k fr)
  (λp a l fr ⟨k,hk,hp,hl,q⟩=>by
   subst hp;have hlen:=aab List.length hl;simp at hlen;have ha:a=k:=by
    have:=aab (·[k]?) hl;simp[aaN]at this;rw[ab5 (by omega)]at this;simpa using this
   subst ha;refine(turn a fr (by omega) q).mono λg h2 z=>?_;cases g with
   |nx=>exact⟨a+1,by omega,by simp[abZ],by simpa using hl,z⟩
   |ct=>exact⟨a+1,by omega,by simp[abZ],by simpa using hl,z⟩
   |bk=>exact z
   |ret x=>exact z)
  (λp fr ⟨k,hk,hp,hl,q⟩=>by
   subst hp;have hlen:=aab List.length hl;simp at hlen;subst hlen;exact fin fr q) (List.range N) [] fr ⟨0,aa7 _,rfl,by simp,i⟩
 exact h
theorem xx{t:Fr->R Bool}{f:Fr->R Fl}{Q:Fl->Fr->Prop}(I:Nat->Fr->Prop)(turn:∀k fr,I k fr->Wp (t fr) λb af=>if b then Wp (f af) (fl (λao=>∃j,j<k/\I j ao) (Q .nx) λv=>Q (.ret v))else Q .nx af):∀(n k:Nat) (fr:Fr),k<n->I k fr->Wp (di t f n fr) Q
 |0,k,fr,hk,_=>by omega
 |n+1,k,fr,hk,i=>by
  simp only[di,wp_bind];refine(turn k fr i).mono λb af q=>?_;cases b with
  |false=>simpa using q
  |true=>
   simp only[aan,wp_bind]at q ⊢;refine q.mono λg ao z=>?_;cases g with
   |nx=>obtain⟨j,hj,z⟩:=z;exact xx I turn n j ao (by omega) z
   |ct=>obtain⟨j,hj,z⟩:=z;exact xx I turn n j ao (by omega) z
   |bk=>exact(rO _ _).mpr z
   |ret x=>exact(rO _ _).mpr z
noncomputable def fin(fn:Fn)(ds:List Sl):R Fl->Option (V×List (List V))
 |.ok (.ret v) fr=>some (v,outs fn.np fr)
 |.ok .nx fr=>some (.aU,outs fn.np fr)
 |_=>Dq fn ds
def run_eq{F:List Fn}{w n f:Nat}{ds:List Sl}{fn:Fn}(hf:F[f]?=some fn)(hl:ds.length=fn.np):run F w (n+1) f ds=fin fn ds (exs (run F w n) w fn.body (dM fn ds)):=by
 simp only[gf,hf,hl,aan];cases exs (run F w n) w fn.body (dM fn ds)with
 |bad=>rfl
 |ok g fr=>cases g<;>rfl
def bV{F:List Fn}{w n f:Nat}{ds:List Sl}{fn:Fn}{v:V}{os:List (List V)}(hf:F[f]?=some fn)(hl:ds.length=fn.np)(q:Wp (exs (run F w n) w fn.body (dM fn ds)) λg fr=>g=.ret v/\outs fn.np fr=os):run F w (n+1) f ds=some (v,os):=by
 rw[run_eq hf hl];obtain⟨g,fr,e,rfl,rfl⟩:=q;rw[e];rfl
section
variable{P:aL}{w:Nat}{fr:Fr}{k:Bool}{a b c:E}{es:Es}{ss sa sb:Ss}{st:S}{lo hi:Eo}{it:It}
@[simp] theorem VT{d:D}:ev P k (.c d) fr=R.of (ofD d) fr:=by rw[ev]
@[simp] theorem VU{i:Nat}:ev P k (.v i) fr=R.of (jg k fr i) fr:=by rw[ev]
@[simp] theorem O4:ev P k (.tup es) fr=(bU P false es fr).bind λds af=>R.of (gD ds) af:=by rw[ev]
@[simp] theorem O5:ev P k (.lst es) fr=(bU P false es fr).bind λds af=>R.of (eN ds) af:=by rw[ev]
@[simp] theorem O6{o:bw}:ev P k (.bin o a b) fr=(ev P (kf a (bQ b)) a fr).bind λx af=>(ev P true b af).bind λy ao=>R.of (bD o x y) ao:=by rw[ev]
@[simp] theorem O7{o:bq}:ev P k (.cmp o a b) fr=(ev P (kf a (bQ b)) a fr).bind λx af=>(ev P true b af).bind λy ao=>R.of ((cop o x y).map .bl) ao:=by rw[ev]
noncomputable def Yq:V->Fr->R V:=λx h1=>match x with
 |.bl b=>.ok (.bl (!b)) h1
 |_=>.bad
@[simp] theorem R1:ev P k (.nt a) fr=(ev P true a fr).bind Yq:=by rw[ev];rfl
noncomputable def VW:V->Fr->R V:=λx h1=>match x with
 |.int i=>.ok (.int (-i)) h1
 |_=>.bad
@[simp] theorem O8:ev P k (.neg a) fr=(ev P true a fr).bind VW:=by rw[ev];rfl
noncomputable def UE(r:Fr->R V):V->Fr->R V:=λx h1=>match x with
 |.bl true=>r h1
 |.bl false=>.ok (.bl false) h1
 |_=>.bad
@[simp] theorem DM{k:Bool}{r:Fr->R V}:UE r (.bl k) fr=if k then r fr else .ok (.bl false) fr:=by cases k<;>rfl
@[simp] theorem Iw:ev P k (.an a b) fr=(ev P true a fr).bind (UE λh1=>ev P k b h1):=by rw[ev];rfl
@[simp] theorem O9:ev P k (.iX a b c) fr=(aH P a fr).bind λt af=>if t then ev P k b af else ev P k c af:=by rw[ev]
@[simp] theorem R3:ev P k (.ix a b) fr=(ev P (kf a (bQ b)) a fr).bind λx af=>(ev P true b af).bind λy ao=>R.of (cY x y) ao:=by rw[ev]
@[simp] theorem R4:ev P k (.sl a lo hi) fr=(ev P (kf a (lK lo++lK hi)) a fr).bind λx af=>(gc P lo af).bind λl ao=>(gc P hi ao).bind λu bR=>R.of (iZ x l u) bR:=by rw[ev]
def K6:ev P k (.fh a b) fr=(ev P (kf a (bQ b)) a fr).bind λx af=>(ev P true b af).bind λy ao=>R.of (Bm x y) ao:=by rw[ev]
def Pa:ev P k (.jS a) fr=(ev P true a fr).bind λx af=>R.of (tM x) af:=by rw[ev]
@[simp] theorem R5{f:Nat}:ev P k (.cl f es) fr=(er P es fr).bind λas af=>cS P f as af:=by rw[ev]
@[simp] theorem R6{g:BI}:ev P k (.bi g es) fr=(bU P true es fr).bind λds af=>R.of (dz g ds) af:=by rw[ev]
noncomputable def Gg(m:ME)(i:Nat):List V->Fr->R V:=λds af=>match af[i]? with
 |some (some (.own l))=>match kC m l ds with
  |some (v,l')=>.ok v (af.set i (some (.own l')))
  |none=>.bad
 |some (some (.bor l))=>match kC m l ds with
  |some (v,l')=>.ok v (af.set i (some (.bor l')))
  |none=>.bad
 |_=>.bad
def Pb{m:ME}{i:Nat}(hm:jf m=true):ev P k (.me m (.v i) es) fr=if (lent fr i).isSome then (bU P (zA m) es fr).bind (Gg m i)else .bad:=by
 rw[ev,mD hm];unfold gG;cases z:(lent fr i).isSome<;>simp[z]<;>rfl
def Pc{m:ME}(hm:jf m=false):ev P k (.me m a es) fr=(ev P (kf a (gb es)) a fr).bind λx af=>(bU P true es af).bind λds ao=>R.of (fq m x ds) ao:=by rw[ev,hm];rfl
noncomputable def kZ(P:aL)(elt:E)(t:T)(cond:Eo)(fr:Fr):V->Option (Option V):=λd=>match bJ t d (rA fr)with
 |none=>none
 |some ao=>match ja P cond ao with
  |.ok c _=>if c then (match ev P false elt ao with|.ok x _=>some (some x)|.bad=>none)else some none
  |.bad=>none
@[simp] theorem sX{elt:E}{t:T}{cond:Eo}:ev P k (.comp elt t it cond) fr=(cy P true it fr).bind λs af=>if undef t af then R.of ((cK (kZ P elt t cond af) s).bind eN) af else .bad:=by rw[ev];rfl
@[simp] theorem Pd:ev P k (.gU it) fr=(cy P true it fr).bind λs af=>R.of (eN s) af:=by rw[ev]
@[simp] theorem K7{kvs:List (D×D)}:ev P k (.gY kvs a) fr=(ev P true a fr).bind λx af=>R.of (fz x kvs) af:=by rw[ev]
@[simp] theorem Pe:ev P k (.gy a) fr=(ev P true a fr).bind λx af=>R.of (toT x) af:=by rw[ev]
@[simp] theorem K8:bU P k .nil fr=.ok [] fr:=by rw[bU]
@[simp] theorem Gh:bU P k (.cons a es) fr=(ev P (k&&kf a (gb es)) a fr).bind λd af=>(bU P k es af).bind λds ao=>.ok (d :: ds) ao:=by rw[bU]
@[simp] theorem K9:er P .nil fr=.ok [] fr:=by rw[er]
noncomputable def Bs(P:aL)(a:E)(es:Es)(fr:Fr):Option Nat->R (List (Nat ⊕ V))
 |some i=>(er P es fr).bind λr af=>.ok (.inl i :: r) af
 |none=>(ev P false a fr).bind λd af=>(er P es af).bind λr ao=>.ok (.inr d :: r) ao
@[simp] theorem Bt{i:Nat}:Bs P a es fr (some i)=(er P es fr).bind λr af=>.ok (.inl i :: r) af:=nd rfl
@[simp] theorem Bu:Bs P a es fr none=(ev P false a fr).bind λd af=>(er P es af).bind λr ao=>.ok (.inr d :: r) ao:=nd rfl
@[simp] theorem xy:er P (.cons a es) fr=Bs P a es fr (gG fr a):=by rw[er];cases gG fr a<;>rfl
@[simp] theorem Pf:gc P .no fr=.ok none fr:=by rw[gc]
@[simp] theorem La:gc P (.yes a) fr=(ev P true a fr).bind λd af=>R.of ((intOf d).map some) af:=by rw[gc]
@[simp] theorem Pg:ja P .no fr=.ok true fr:=by rw[ja]
@[simp] theorem Lb:ja P (.yes a) fr=aH P a fr:=by rw[ja]
@[simp] theorem DN:aH P (.an a b) fr=(aH P a fr).bind λk af=>if k then aH P b af else .ok false af:=by rw[aH]
@[simp] theorem zV:aH P (.orr a b) fr=(aH P a fr).bind λk af=>if k then .ok true af else aH P b af:=by rw[aH]
@[simp] theorem Ph:aH P (.nt a) fr=(aH P a fr).bind λk af=>.ok (!k) af:=by rw[aH]
noncomputable def Pj:V->Fr->R Bool:=λx af=>.ok (truthy x) af
@[simp] theorem Lc{x:V}:Pj x fr=.ok (truthy x) fr:=nd rfl
@[simp] theorem Ld:cy P k (.seq a) fr=(src k fr a (ev P k a fr)).bind λx af=>R.of (fN x) af:=by rw[cy]
@[simp] theorem Le:cy P k (.iU es) fr=(bU P true es fr).bind λds af=>R.of (fO ds) af:=by rw[cy]
@[simp] theorem Gi:cy P k (.enum a) fr=(src k fr a (ev P k a fr)).bind λx af=>R.of ((pZ x).map λs=>cD 0 s) af:=by rw[cy]
@[simp] theorem Lf:cy P k (.rev a) fr=(ev P true a fr).bind λx af=>R.of ((Bj x).map λs=>s.reverse) af:=by rw[cy]
noncomputable def Pk(i:Nat)(af:Fr):V->R Fl
 |.lst l=>(R.of (put af i (.own l)) af).bind λao _=>.ok .nx ao
 |_=>.bad
@[simp] theorem Gj{i:Nat}{l:List V}:Pk i fr (.lst l)=(R.of (put fr i (.own l)) fr).bind λao _=>.ok .nx ao:=nd rfl
@[simp] theorem DO{i:Nat}:ex P w (.set i a) fr=(ev P false a fr).bind λx af=>if isNew a then Pk i af x else (R.of (put af i (.val x)) af).bind λao _=>.ok .nx ao:=by
 rw[ex];rfl
@[simp] theorem Lh{l:List Nat}:ex P w (.iA l a) fr=(ev P false a fr).bind λx af=>(R.of (bJ (.many l) x af) af).bind λao _=>.ok .nx ao:=by rw[ex]
@[simp] theorem Pn:ex P w (.exp a) fr=(ev P true a fr).bind λ_ af=>.ok .nx af:=by rw[ex]
@[simp] theorem Po:ex P w (.ret a) fr=(ev P false a (gj fr)).bind λx af=>.ok (.ret x) af:=by rw[ex]
@[simp] theorem Pp:ex P w (.iff a sa sb) fr=(aH P a fr).bind λk af=>if k then exs P w sa af else exs P w sb af:=by rw[ex]
noncomputable def turnF(P:aL)(w:Nat)(t:T)(b:Ss):V->Fr->R Fl:=λd ao=>match bJ t d ao with
 |some bR=>exs P w b bR
 |none=>.bad
@[simp] theorem v9{t:T}:ex P w (.for t it ss) fr=(cy P false it (rB (itv it) fr)).bind λs af=>forL (turnF P w t ss) s af:=by rw[ex];rfl
@[simp] theorem Pq:ex P w (.jU a ss) fr=di (λao=>aH P a ao) (λao=>exs P w ss ao) w fr:=by rw[ex]
@[simp] theorem Li:exs P w .nil fr=.ok .nx fr:=by rw[exs]
noncomputable def R7(P:aL)(w:Nat)(ss:Ss):Fl->Fr->R Fl:=λp h1=>match p with
 |.nx=>exs P w ss h1
 |p=>.ok p h1
@[simp] theorem Gk:exs P w (.cons st ss) fr=(ex P w st fr).bind (R7 P w ss):=by rw[exs];rfl
end
def iO{P:aL}{f:Nat}{vs:List V}{fr:Fr}{v:V}(h:P f (vs.map .val)=some (v,[])):cS P f (vs.map .inr) fr=.ok v fr:=by
 have h1:∀vs:List V,bK (vs.map .inr)=[]:=λvs=>by induction vs<;>simp[bK, *]
 have h2:∀vs:List V,args fr (vs.map .inr)=some (vs.map .val):=λvs=>by induction vs<;>simp[args, *]
 simp[cS,h1,h2,h,back]
section
variable{P:aL}{f:Nat}{fr:Fr}{a b c d v:V}
def dS(h:P f [.val a]=some (v,[])):cS P f [.inr a] fr=.ok v fr:=iO (vs:=[a]) h
def call2(h:P f [.val a,.val b]=some (v,[])):cS P f [.inr a,.inr b] fr=.ok v fr:=iO (vs:=[a,b]) h
def iw(h:P f [.val a,.val b,.val c]=some (v,[])):cS P f [.inr a,.inr b,.inr c] fr=.ok v fr:=iO (vs:=[a,b,c]) h
def jj(h:P f [.val a,.val b,.val c,.val d]=some (v,[])):cS P f [.inr a,.inr b,.inr c,.inr d] fr=.ok v fr:=iO (vs:=[a,b,c,d]) h
end
section
variable{fr:Fr}{i:Nat}{k:Bool}{s:Sl}{v:V}{l:List V}
noncomputable def DP(k:Bool):Option (Option Sl)->Option V
 |some (some (.val v))=>some v
 |some (some (.own l))=>if k then some (.lst l)else none
 |some (some (.bor l))=>if k then some (.lst l)else none
 |some (some (.ro l))=>if k then some (.lst l)else none
 |_=>none
@[simp] theorem Lj:jg k fr i=DP k fr[i]?:=by unfold jg DP;split<;>simp_all
@[simp] theorem WL:DP k (some (some (.val v)))=some v:=nd rfl
@[simp] theorem WM:DP k (some (some (.own l)))=if k then some (.lst l)else none:=nd rfl
@[simp] theorem R8{r:R V}:src k fr (.v i) r=R.of (Bk k fr i) fr:=nd rfl
noncomputable def Pr:Option (Option Sl)->Option Sl
 |some (some s)=>s.lend
 |_=>none
@[simp] theorem tS:lent fr i=Pr fr[i]?:=by unfold lent Pr;split<;>simp_all
@[simp] theorem WN:Pr (some (some (.own l)))=some (.bor l):=nd rfl
noncomputable def zW(fr:Fr)(i:Nat)(s:Sl):Option (Option Sl)->Option Fr
 |some (some (.bor _))=>none
 |some (some (.ro _))=>none
 |_=>some (fr.set i (some s))
@[simp] theorem DQ:put fr i s=zW fr i s fr[i]?:=by unfold put zW;split<;>simp_all
@[simp] theorem WO:zW fr i s (some (some (.val v)))=some (fr.set i (some s)):=nd rfl
@[simp] theorem WQ:zW fr i s (some (some (.own l)))=some (fr.set i (some s)):=nd rfl
@[simp] theorem Bv{l:List Nat}{x:List V}:bJ (.many l) (.tup x) fr=cH l x fr:=nd rfl
@[simp] theorem Bw:cH [] [] fr=some fr:=nd rfl
@[simp] theorem yx{l:List Nat}{x:List V}:cH (i :: l) (v :: x) fr=(put fr i (.val v)).bind (cH l x):=nd rfl
@[simp] theorem VX:Sl.eF (.val v)=.val v:=nd rfl
@[simp] theorem VY:Sl.eF (.own l)=.val (.lst l):=nd rfl
noncomputable def gK(m:ME)(i:Nat)(ds:List V)(fr:Fr):Option (Option Sl)->R V
 |some (some (.own l))=>match kC m l ds with
  |some (v,l')=>.ok v (fr.set i (some (.own l')))
  |none=>.bad
 |some (some (.bor l))=>match kC m l ds with
  |some (v,l')=>.ok v (fr.set i (some (.bor l')))
  |none=>.bad
 |_=>.bad
@[simp] theorem Lk{m:ME}{ds:List V}:Gg m i ds fr=gK m i ds fr fr[i]?:=by unfold Gg gK;split<;>simp_all<;>rfl
def j5{d:V}(h:l.length<100000):gK .append i [d] fr (some (some (.own l)))=.ok .aU (fr.set i (some (.own (l++[d])))):=by
 simp[gK,kC,xT h (show 100000<=big by decide)]
def Ll{d:V}(h:l.length<100000):gK .append i [d] fr (some (some (.bor l)))=.ok .aU (fr.set i (some (.bor (l++[d])))):=by
 simp[gK,kC,xT h (show 100000<=big by decide)]
def tT{d:List V}(h:l.length+d.length<=100000):gK .extend i [.lst d] fr (some (some (.own l)))=.ok .aU (fr.set i (some (.own (l++d)))):=by
 simp[gK,kC,bX h]
def Lm:gK .pop i [] fr (some (some (.own (l++[v]))))=.ok v (fr.set i (some (.own l))):=by
 simp[gK,kC]
def Ln:gK .pop i [] fr (some (some (.bor (l++[v]))))=.ok v (fr.set i (some (.bor l))):=by
 simp[gK,kC]
end
noncomputable def vo(o:Option Sl):Prop:=o=none\/∃y,o=some (.val y)
theorem vo.none:vo none:=.inl rfl
theorem vo.val{v:V}:vo (some (.val v)):=.inr ⟨v,rfl⟩
def Pu{fr:Fr}{i:Nat}{s:Sl}{b:Option Sl}(h:vo b):zW fr i s (some b)=some (fr.set i (some s)):=by rcases h with rfl|⟨y,rfl⟩<;>rfl
def dU{b:Option Sl}(h:vo b):b.map Sl.eF=b:=by rcases h with rfl|⟨y,rfl⟩<;>rfl
def xA{α:Type}{l:List α}{i:Int}(h0:0<=i):bE l i=l[i.toNat]?:=by
 unfold bE cL;rw[mD h0];split
 .rfl
 .rw[aaw (by omega)];rfl
@[simp] theorem gQ{α:Type}{l:List α}{n:Nat}:bE l (n:Int)=l[n]?:=by rw[xA (by omega)];simp
def oz{α:Type}{l:List α}:bE l (-1:Int)=l.getLast?:=by
 unfold bE cL;cases l with
 |nil=>rfl
 |cons a l=>
  have h1:¬ (0:Int)<=-1:=by omega
  have h2:-(((a :: l).length:Nat):Int)<=-1:=by simp;omega
  rw[Yv h1,mD h2,acj];simp only[Option.bind]
  congr 1
  simp;omega
noncomputable def vn:Fn:=⟨2,2,(.cons (.iff (.cmp .eq (.v 0) (.lst .nil)) (.cons (.ret (.bin .mul (.c (.int 7)) (.v 1))) .nil) .nil) (.cons (.ret (.bin .add (.ix (.v 0) (.bin .mod (.v 1) (.bi .len (.cons (.v 0) .nil)))) (.bin .mul (.c (.int 6553)) (.bin .fdiv (.v 1) (.bi .len (.cons (.v 0) .nil)))))) .nil))⟩
noncomputable def xB(c:Nat):Fn:=⟨3,4,(.cons (.set 3 (.bin .mod (.bin .add (.bin .mul (.bin .mod (.cl c (.cons (.v 0) (.cons (.v 1) .nil))) (.c (.int 2147483563))) (.c (.int 69069))) (.bin .mul (.c (.int 104723)) (.bin .add (.v 1) (.c (.int 1))))) (.c (.int 2147483563)))) (.cons (.set 3 (.bin .mod (.bin .add (.bin .mul (.v 3) (.v 3)) (.bin .fdiv (.v 3) (.c (.int 3)))) (.c (.int 2147483399)))) (.cons (.ret (.bin .mod (.bin .fdiv (.bin .mod (.bin .add (.bin .mul (.v 3) (.v 3)) (.bin .fdiv (.v 3) (.c (.int 7)))) (.c (.int 2147483647))) (.c (.int 11))) (.v 2))) .nil)))⟩
noncomputable def vp(ns:List Int)(k:Int):Int:=if ns=[]then 7*k else (ns[(k % ns.length).toNat]?.getD 0)+6553*(k / ns.length)
noncomputable def cP(ns:List Int)(k many:Int):Int:=
 let c:=(vp ns k % 2147483563*69069+104723*(k+1)) % 2147483563
 let c:=(c*c+c / 3) % 2147483399
 (c*c+c / 7) % 2147483647 / 11 % many
def kI(ns:List Int)(k:Int){many:Int}(h:0<many):0<=cP ns k many:=ab2 _ (by omega)
def mq(ns:List Int)(k:Int){many:Int}(h:0<many):cP ns k many<many:=abE _ h
noncomputable def jW(ns:List Int):V:=.bY (ns.map V.int)
def Lo(ns:List Int):b9 (eE (18+1)) (ns.map V.int) []=some (decide (ns=[])):=by cases ns<;>simp
section
variable{P:aL}{w:Nat}{fr af ao bR:Fr}{k b:Bool}{a e c:E}{es:Es}{ss sa sb:Ss}{st:S}{lo hi:Eo}{it:It}{v x y z:V}{vs:List V}{i:Nat}{l:List V}{Q:Fl->Fr->Prop}
def az{d:D}(h:ofD d=some v):ev P k (.c d) fr=.ok v fr:=by rw[VT,h];rfl
def aq(h:jg k fr i=some v):ev P k (.v i) fr=.ok v fr:=by rw[VU,h];rfl
def cT(h:bU P false es fr=.ok vs af)(h2:gD vs=some v):ev P k (.tup es) fr=.ok v af:=by rw[O4,h,ak,h2];rfl
def fQ(h:bU P false es fr=.ok vs af)(h2:eN vs=some v):ev P k (.lst es) fr=.ok v af:=by rw[O5,h,ak,h2];rfl
def bg{o:bw}(h:ev P (kf a (bQ e)) a fr=.ok x af)(h2:ev P true e af=.ok y ao)(h3:bD o x y=some v):ev P k (.bin o a e) fr=.ok v ao:=by rw[O6,h,ak,h2,ak,h3];rfl
def aK{o:bq}(h:ev P (kf a (bQ e)) a fr=.ok x af)(h2:ev P true e af=.ok y ao)(h3:cop o x y=some b):ev P k (.cmp o a e) fr=.ok (.bl b) ao:=by rw[O7,h,ak,h2,ak,h3];rfl
def VZ(h:ev P true a fr=.ok (.bl b) af):ev P k (.nt a) fr=.ok (.bl (!b)) af:=by rw[R1,h];rfl
def gS{j:Int}(h:ev P true a fr=.ok (.int j) af):ev P k (.neg a) fr=.ok (.int (-j)) af:=by rw[O8,h];rfl
def V0(h:ev P true a fr=.ok (.bl b) af)(h2:b=true->ev P k e af=.ok v ao)(h3:b=false->.bl false=v/\af=ao):ev P k (.an a e) fr=.ok v ao:=by
 rw[Iw,h,ak,DM];cases b with
 |true=>exact h2 rfl
 |false=>obtain⟨rfl,rfl⟩:=h3 rfl;rfl
def R9(h:ev P true a fr=.ok (.bl true) af)(h2:ev P k e af=.ok v ao):ev P k (.an a e) fr=.ok v ao:=by rw[Iw,h,ak,DM];exact h2
def pq(h:aH P a fr=.ok b af)(h2:b=true->ev P k e af=.ok v ao)(h3:b=false->ev P k c af=.ok v ao):ev P k (.iX a e c) fr=.ok v ao:=by
 rw[O9,h,ak];cases b with
 |true=>exact h2 rfl
 |false=>exact h3 rfl
def b7(h:ev P (kf a (bQ e)) a fr=.ok x af)(h2:ev P true e af=.ok y ao)(h3:cY x y=some v):ev P k (.ix a e) fr=.ok v ao:=by rw[R3,h,ak,h2,ak,h3];rfl
def Sa{kvs:List (List Nat×List Nat)}(h:kvs≠[]):ev P k (.jT kvs) fr=.ok (.dw kvs) fr:=by rw[ev,Yv h]
def Bx(h:ev P (kf a (bQ e)) a fr=.ok x af)(h2:ev P true e af=.ok y ao)(h3:Bg x y=some v):ev P k (.ku a e) fr=.ok v ao:=by rw[ev,h,ak,h2,ak,h3];rfl
def Gm{p q:Option Int}(h:ev P (kf a (lK lo++lK hi)) a fr=.ok x af)(h2:gc P lo af=.ok p ao)(h3:gc P hi ao=.ok q bR)(h4:iZ x p q=some v):ev P k (.sl a lo hi) fr=.ok v bR:=by rw[R4,h,ak,h2,ak,h3,ak,h4];rfl
def xC{b:E}{l m:List V}(h:ev P (kf a (bQ b)) a fr=.ok (.lst l) af)(h2:ev P true b af=.ok (.lst m) ao)(h3:(l++m).length<=Ev.big):ev P k (.fh a b) fr=.ok (.lst (l++m)) ao:=by rw[K6,h,ak,h2,ak];show R.of (eN (l++m)) ao=_;rw[fE h3];rfl
def Sb(h:ev P true a fr=.ok x af)(h2:tM x=some v):ev P k (.jS a) fr=.ok v af:=by rw[Pa,h,ak,h2];rfl
def bW{f:Nat}{as:List (Nat ⊕ V)}(h:er P es fr=.ok as af)(h2:cS P f as af=.ok v ao):ev P k (.cl f es) fr=.ok v ao:=by rw[R5,h,ak];exact h2
def eS{g:BI}(h:bU P true es fr=.ok vs af)(h2:dz g vs=some v):ev P k (.bi g es) fr=.ok v af:=by rw[R6,h,ak,h2];rfl
def lq{m:ME}(hm:jf m=true)(hl:(lent fr i).isSome=true)(h:bU P (zA m) es fr=.ok vs af)(h2:gK m i vs af af[i]?=.ok v ao):ev P k (.me m (.v i) es) fr=.ok v ao:=by
 rw[Pb hm,mD hl,h,ak,Lk];exact h2
def By{m:ME}(hm:jf m=false)(h:ev P (kf a (gb es)) a fr=.ok x af)(h2:bU P true es af=.ok vs ao)(h3:fq m x vs=some v):ev P k (.me m a es) fr=.ok v ao:=by rw[Pc hm,h,ak,h2,ak,h3];rfl
def rP{t:T}{cond:Eo}(h:cy P true it fr=.ok vs af)(hu:undef t af=true)(h2:cK (kZ P a t cond af) vs=some l)(h3:eN l=some v):ev P k (.comp a t it cond) fr=.ok v af:=by
 rw[sX,h,ak,mD hu,h2];show R.of (eN l) af=_;rw[h3];rfl
def BA(h:cy P true it fr=.ok vs af)(h2:eN vs=some v):ev P k (.gU it) fr=.ok v af:=by rw[Pd,h,ak,h2];rfl
def DR{kvs:List (D×D)}(h:ev P true a fr=.ok x af)(h2:fz x kvs=some v):ev P k (.gY kvs a) fr=.ok v af:=by rw[K7,h,ak,h2];rfl
def pD(h:ev P true a fr=.ok x af)(h2:toT x=some v):ev P k (.gy a) fr=.ok v af:=by rw[Pe,h,ak,h2];rfl
def aI:bU P k .nil fr=.ok [] fr:=K8
def av(h:ev P (k&&kf a (gb es)) a fr=.ok v af)(h2:bU P k es af=.ok vs ao):bU P k (.cons a es) fr=.ok (v :: vs) ao:=by rw[Gh,h,ak,h2];rfl
def aV:er P .nil fr=.ok [] fr:=K9
def aF{as:List (Nat ⊕ V)}(hi:gG fr a=none)(h:ev P false a fr=.ok v af)(h2:er P es af=.ok as ao):er P (.cons a es) fr=.ok (.inr v :: as) ao:=by rw[xy,hi,Bu,h,ak,h2];rfl
def Pw{as:List (Nat ⊕ V)}(hi:gG fr a=some i)(h2:er P es fr=.ok as ao):er P (.cons a es) fr=.ok (.inl i :: as) ao:=by rw[xy,hi,Bt,h2];rfl
def Iz:gc P .no fr=.ok none fr:=Pf
def rQ{j:Int}(h:ev P true a fr=.ok (.int j) af):gc P (.yes a) fr=.ok (some j) af:=by rw[La,h];rfl
def xD(h:aH P a fr=.ok false af):aH P (.an a e) fr=.ok false af:=by rw[DN,h];rfl
def g8{b2:Bool}(h:aH P a fr=.ok true af)(h2:aH P e af=.ok b2 ao):aH P (.an a e) fr=.ok b2 ao:=by rw[DN,h];exact h2
def kJ(h:aH P a fr=.ok true af):aH P (.orr a e) fr=.ok true af:=by rw[zV,h];rfl
def fG{b2:Bool}(h:aH P a fr=.ok false af)(h2:aH P e af=.ok b2 ao):aH P (.orr a e) fr=.ok b2 ao:=by rw[zV,h];exact h2
def BB(h:aH P a fr=.ok b af):aH P (.nt a) fr=.ok (!b) af:=by rw[Ph,h];rfl
noncomputable def plainT:E->Bool
 |.an _ _=>false
 |.orr _ _=>false
 |.nt _=>false
 |_=>true
def ay(hp:plainT a=true)(h:ev P true a fr=.ok x af)(h2:truthy x=b):aH P a fr=.ok b af:=by
 have:aH P a fr=(ev P true a fr).bind Pj:=by
  cases a<;>first | (cases hp;done) | (rw[aH];rfl;all_goals (intros;contradiction))
 rw[this,h,ak,Lc,h2]
def jk(h:src k fr a (ev P k a fr)=.ok x af)(h2:fN x=some vs):cy P k (.seq a) fr=.ok vs af:=by rw[Ld,h,ak,h2];rfl
def iP(h:Bk k fr i=some v){r:R V}:src k fr (.v i) r=.ok v fr:=by rw[R8,h];rfl
def xE(h:bU P true es fr=.ok vs af)(h2:fO vs=some l):cy P k (.iU es) fr=.ok l af:=by rw[Le,h,ak,h2];rfl
def tU(h:src k fr a (ev P k a fr)=.ok x af)(h2:pZ x=some vs):cy P k (.enum a) fr=.ok (cD 0 vs) af:=by rw[Gi,h,ak,h2];rfl
def Px(h:ev P true a fr=.ok x af)(h2:Bj x=some vs):cy P k (.rev a) fr=.ok vs.reverse af:=by rw[Lf,h,ak,h2];rfl
def aY(h:ev P false a fr=.ok v af)(hn:isNew a=false)(hp:put af i (.val v)=some ao)(q:Q .nx ao):Wp (ex P w (.set i a) fr) Q:=by
 rw[DO,h,ak,hn,hp];exact⟨_,_,rfl,q⟩
def eX(h:ev P false a fr=.ok (.lst l) af)(hn:isNew a=true)(hp:put af i (.own l)=some ao)(q:Q .nx ao):Wp (ex P w (.set i a) fr) Q:=by
 rw[DO,h,ak,hn,mD rfl,Gj,hp];exact⟨_,_,rfl,q⟩
def DS{is:List Nat}(h:ev P false a fr=.ok v af)(hp:bJ (.many is) v af=some ao)(q:Q .nx ao):Wp (ex P w (.iA is a) fr) Q:=by
 rw[Lh,h,ak,hp];exact⟨_,_,rfl,q⟩
def fR(h:ev P true a fr=.ok v af)(q:Q .nx af):Wp (ex P w (.exp a) fr) Q:=by rw[Pn,h];exact⟨_,_,rfl,q⟩
def b8(h:ev P false a (gj fr)=.ok v af)(q:Q (.ret v) af):Wp (ex P w (.ret a) fr) Q:=by rw[Po,h];exact⟨_,_,rfl,q⟩
def aN(h:aH P a fr=.ok b af)(h2:b=true->Wp (exs P w sa af) Q)(h3:b=false->Wp (exs P w sb af) Q):Wp (ex P w (.iff a sa sb) fr) Q:=by
 rw[Pp,h,ak];cases b with
 |true=>exact h2 rfl
 |false=>exact h3 rfl
def aD(q:Q .nx fr):Wp (exs P w .nil fr) Q:=by rw[Li];exact⟨_,_,rfl,q⟩
noncomputable def nx(P:aL)(w:Nat)(ss:Ss)(Q:Fl->Fr->Prop):Fl->Fr->Prop
 |.nx,fr=>Wp (exs P w ss fr) Q
 |g,fr=>Q g fr
def ai(q:Wp (ex P w st fr) (nx P w ss Q)):Wp (exs P w (.cons st ss) fr) Q:=by
 rw[Gk,wp_bind];refine q.mono λg af z=>?_;cases g with
 |nx=>exact z
 |bk=>exact⟨_,_,rfl,z⟩
 |ct=>exact⟨_,_,rfl,z⟩
 |ret v=>exact⟨_,_,rfl,z⟩
def jA{t:T}(h:cy P false it (rB (itv it) fr)=.ok vs af)(q:Wp (forL (turnF P w t ss) vs af) Q):Wp (ex P w (.for t it ss) fr) Q:=by rw[v9,h,ak];exact q
def Sd(q:Wp (di (λao=>aH P a ao) (λao=>exs P w ss ao) w fr) Q):Wp (ex P w (.jU a ss) fr) Q:=by rw[Pq];exact q
def dN{t:T}{d:V}(hb:bJ t d fr=some af)(q:Wp (exs P w ss af) Q):Wp (turnF P w t ss d fr) Q:=by unfold turnF;rw[hb];exact q
def oA{t:T}{d:V}(hb:bJ t d (rA fr)=some af)(h:ev P false a af=.ok v ao):kZ P a t .no fr d=some (some v):=by
 unfold kZ;rw[hb];dsimp only;rw[Pg];dsimp only;rw[h];rfl
def Lp{t:T}{d:V}(hb:bJ t d (rA fr)=some af)(h:aH P c af=.ok b ao)(h2:b=true->ev P false a af=.ok v bR):kZ P a t (.yes c) fr d=some (if b then some v else none):=by
 unfold kZ;rw[hb];dsimp only;rw[Lb,h];dsimp only;cases b with
 |true=>rw[h2 rfl];rfl
 |false=>rfl
def cC{p q:List Nat}:cop .eq (.str p) (.str q)=some (decide (p=q)):=zR
def gm{p q:List Nat}:cop .ne (.str p) (.str q)=some (!decide (p=q)):=by rw[oq,zR];rfl
def jw{p q:Int}:cop .eq (.int p) (.int q)=some (decide (p=q)):=zQ
def IA{p q:Int}:cop .ne (.int p) (.int q)=some (!decide (p=q)):=by rw[oq,zQ];rfl
def kK{p q:Int}:cop .lt (.int p) (.int q)=some (decide (p<q)):=rfl
def qx{p q:Int}:cop .gt (.int p) (.int q)=some (decide (q<p)):=rfl
def pF{p q:Int}(h:bT p q=true):bD .mul (.int p) (.int q)=some (.int (p*q)):=by rw[qw,mD h]
def pG{p q:Int}(h:0<q):bD .mod (.int p) (.int q)=some (.int (p % q)):=by rw[K1,mD h]
def vq{p q:Int}(h:0<q)(h2:q<1073741824):bD .fdiv (.int p) (.int q)=some (.int (p / q)):=by rw[Gf,mD ⟨h,h2⟩]
end
def fV{fr:Fr}{i:Nat}{s:Sl}{o:Option Sl}(e:fr[i]?=some o)(h:vo o):put fr i s=some (fr.set i (some s)):=by rw[DQ,e,Pu h]
def gq{fr:Fr}{i j:Nat}{u v:V}{a b:Option Sl}(ea:fr[i]?=some a)(ha:vo a)(eb:(fr.set i (some (.val u)))[j]?=some b)(hb:vo b):bJ (.many [i,j]) (.tup [u,v]) fr=some ((fr.set i (some (.val u))).set j (some (.val v))):=by
 simp only[Bv,yx,Bw,fV ea ha,Option.bind,fV eb hb]
def bind1{fr:Fr}{i:Nat}{v:V}{a:Option Sl}(ea:fr[i]?=some a)(ha:vo a):bJ (.one i) v fr=some (fr.set i (some (.val v))):=fV ea ha
end Pv
namespace Pv
open Ev (D O Hh bw bq TY BI ME T E Es Eo It S Ss Fn)
section
variable{P:aL}{X:cA}{w:Nat}(hX:∀f sl c,X f sl=some c->P f sl=none)
include hX
mutual
theorem eV:∀(e:E) {fr:Fr}{c:Nat},xe P X e fr=some c->(∀k,ev P k e fr=.bad)/\aH P e fr=.bad
 |.cl f es,fr,c,z=>by
  simp only[xe]at z;have q:∀k,ev P k (.cl f es) fr=.bad:=λk=>by
   rw[ev];cases y:er P es fr with
   |ok as af=>
    rw[y]at z;simp only at z;simp only[ak];unfold o9 at z;unfold cS;split at z
    case isFalse=>cases z
    rename_i nd;rw[mD nd];rw[V4]at z;obtain⟨sl,z1,z2⟩:=z;rw[z1];simp only;rw[hX _ _ _ z2]
   |bad=>rfl
  exact⟨q,by rw[aH,q];rfl;all_goals (intros;contradiction)⟩
 |.ix a b,fr,c,z=>by
  simp only[xe]at z;have q:∀k,ev P k (.ix a b) fr=.bad:=λk=>by rw[ev,(eV a z).1];rfl
  exact⟨q,by rw[aH,q];rfl;all_goals (intros;contradiction)⟩
 |.me m o es,fr,c,z=>by
  simp only[xe]at z;split at z
  case isFalse=>cases z
  rename_i hm;split at z
  case h_2=>cases z
  rename_i i hi;have q:∀k,ev P k (.me m o es) fr=.bad:=λk=>by
   rw[ev,mD hm,hi];simp only;rw[zX es z];rfl
  exact⟨q,by rw[aH,q];rfl;all_goals (intros;contradiction)⟩
 |.c _,_,_,z=>nomatch z|.v _,_,_,z=>nomatch z|.tup _,_,_,z=>nomatch z|.lst _,_,_,z=>nomatch z
 |.bin _ _ _,_,_,z=>nomatch z|.cmp _ _ _,_,_,z=>nomatch z
 |.nt _,_,_,z=>nomatch z|.neg _,_,_,z=>nomatch z|.an _ _,_,_,z=>nomatch z|.orr _ _,_,_,z=>nomatch z|.iX _ _ _,_,_,z=>nomatch z
 |.sl _ _ _,_,_,z=>nomatch z
 |.jS _,_,_,z=>nomatch z
 |.fh _ _,_,_,z=>nomatch z
 |.bi _ _,_,_,z=>nomatch z
 |.comp _ _ _ _,_,_,z=>nomatch z|.gU _,_,_,z=>nomatch z
 |.gY _ _,_,_,z=>nomatch z|.gy _,_,_,z=>nomatch z
 |.jT _,_,_,z=>nomatch z|.ku _ _,_,_,z=>nomatch z
theorem zY:∀(es:Es) {fr:Fr}{c:Nat},wR P X es fr=some c->er P es fr=.bad
 |.nil,_,_,z=>nomatch z
 |.cons e es,fr,c,z=>by
  simp only[wR]at z;rw[er];split at z
  .rw[zY es z];rfl
  .split at z
   .rename_i y2;rw[y2];simp only[ak];rw[zY es z];rfl
   .rw[(eV e z).1];rfl
theorem zX:∀(es:Es) {k:Bool}{fr:Fr}{c:Nat},zB P X k es fr=some c->bU P k es fr=.bad
 |.nil,_,_,_,z=>nomatch z
 |.cons e es,k,fr,c,z=>by
  simp only[zB]at z;rw[bU];split at z
  .rename_i y2;rw[y2];simp only[ak];rw[zX es z];rfl
  .rw[(eV e z).1];rfl
end
omit hX in
theorem iB{f:V->Fr->R Fl}{g:V->Fr->Option Nat}(hg:∀d fr c,g d fr=some c->f d fr=.bad):∀(vs:List V) {fr:Fr}{c:Nat},fP f g vs fr=some c->forL f vs fr=.bad
 |[],_,_,z=>nomatch z
 |d :: ds,fr,c,z=>by
  simp only[fP]at z;simp only[forL];split at z
  .rename_i e;rw[e];exact iB hg ds z
  .rename_i e;rw[e];exact iB hg ds z
  .cases z
  .rw[hg _ _ _ z];rfl
omit hX in
theorem iC{t:Fr->R Bool}{f:Fr->R Fl}{g:Fr->Option Nat}(hg:∀fr c,g fr=some c->f fr=.bad):∀(n:Nat) {fr:Fr}{c:Nat},gz t f g n fr=some c->di t f n fr=.bad
 |0,_,_,z=>nomatch z
 |n+1,fr,c,z=>by
  simp only[gz]at z;split at z
  case h_2=>cases z
  rename_i e0;simp only[di,e0,ak,aan];split at z
  .rename_i e;rw[e];exact iC hg n z
  .rename_i e;rw[e];exact iC hg n z
  .cases z
  .rw[hg _ _ z];rfl
mutual
theorem nP:∀(s:S) {fr:Fr}{c:Nat},xs P X w s fr=some c->ex P w s fr=.bad
 |.eU c,_,_,_=>by rw[ex]
 |.set i e,fr,c,z=>by rw[ex,(eV hX e z).1];rfl
 |.exp e,fr,c,z=>by rw[ex,(eV hX e z).1];rfl
 |.ret e,fr,c,z=>by rw[ex,(eV hX e z).1];rfl
 |.iff t a b,fr,c,z=>by
  simp only[xs]at z;rw[ex];cases y:aH P t fr with
  |bad=>rfl
  |ok k h1=>
   rw[y]at z;simp only at z;simp only[ak];cases k with
   |true=>exact dj a z
   |false=>exact dj b z
 |.for t it b,fr,c,z=>by
  simp only[xs]at z;rw[ex];split at z
  case h_2=>cases z
  rename_i y;rw[y];simp only[ak];refine iB (λd fr c q=>?_) _ z;cases k:bJ t d fr with
  |none=>rfl
  |some bR=>rw[k]at q;exact dj b q
 |.jU t b,fr,c,z=>by
  simp only[xs]at z;rw[ex];exact iC (λfr c q=>dj b q) _ z
 |.iA _ _,_,_,z=>nomatch z
 |.tr _ _ _,_,_,z=>nomatch z
theorem dj:∀(s:Ss) {fr:Fr}{c:Nat},xss P X w s fr=some c->exs P w s fr=.bad
 |.nil,_,_,z=>nomatch z
 |.cons s ss,fr,c,z=>by
  simp only[xss]at z;rw[exs];split at z
  .rename_i e;rw[e];exact dj ss z
  .cases z
  .rw[nP s z];rfl
end
end
def Se{P:aL}{X:cA}{w:Nat}{fn:Fn}{ds:List Sl}{fr:Fr}{c:Nat}(z:xss P X w fn.body fr=some c):Dq fn ds=none:=by
 unfold Dq;rfl
theorem iQ(F:List Fn)(w:Nat):∀(n f:Nat) (sl:List Sl) (c:Nat),cj F w n f sl=some c->run F w n f sl=none
 |0,_,_,_,_=>rfl
 |n+1,f,ds,c,z=>by
  rw[jb]at z;rw[gf];cases y:F[f]? with
  |none=>rw[y]at z;cases z
  |some fn=>
   rw[y]at z;simp only at z ⊢;split at z
   .rename_i k;rw[mD k,dj (iQ F w n) _ z];exact Se z
   .cases z
section
variable{F:List Fn}{P:aL}{X:cA}{w n f c:Nat}{fr af:Fr}{s:S}{ss sa sb:Ss}{e t:E}{b:Bool}{es:Es}{v:V}
def kL(hX:∀f sl c,X f sl=some c->P f sl=none)(h:xs P X w s fr=some c):xss P X w (.cons s ss) fr=some c:=by
 simp only[xss,nP hX s h];exact h
def Py(h:Wp (ex P w s fr) λg af=>g=.nx/\xss P X w ss af=some c):xss P X w (.cons s ss) fr=some c:=by
 obtain⟨g,af,e,rfl,q⟩:=h;simp only[xss,e];exact q
def IB(h:aH P t fr=.ok b af)(h2:(if b then xss P X w sa af else xss P X w sb af)=some c):xs P X w (.iff t sa sb) fr=some c:=by
 simp only[xs,h];exact h2
def IC:xs P X w (.eU c) fr=some c:=rfl
def ID{i:Nat}(h:xe P X e fr=some c):xs P X w (.set i e) fr=some c:=h
def y_ret(h:xe P X e (gj fr)=some c):xs P X w (.ret e) fr=some c:=h
def V1{a:E}(h:xe P X a fr=some c):xe P X (.ix a e) fr=some c:=by simp only[xe];exact h
def Gn{as:List (Nat ⊕ V)}(h:er P es fr=.ok as af)(h2:o9 X f as af=some c):xe P X (.cl f es) fr=some c:=by simp only[xe,h];exact h2
def rR{fn:Fn}{ds:List Sl}(hf:F[f]?=some fn)(hl:ds.length=fn.np)(h:xss (run F w n) (cj F w n) w fn.body (dM fn ds)=some c):cj F w (n+1) f ds=some c:=by
 rw[jb,hf];simp only;rw[mD hl];exact h
theorem j6:∀vs:List V,bK (vs.map .inr)=[]/\args fr (vs.map .inr)=some (vs.map Sl.val)
 |[]=>⟨rfl,rfl⟩
 |v :: vs=>⟨(j6 vs).1,by rw[aaa,args,(j6 vs).2];rfl⟩
def oB{vs:List V}(h:X f (vs.map .val)=some c):o9 X f (vs.map .inr) fr=some c:=by
 have h1:=j6 (fr:=fr);unfold o9;rw[(h1 vs).1,(h1 vs).2];exact h
def BC{vs:List V}(h:P f (vs.map .val)=none):cS P f (vs.map .inr) fr=.bad:=by
 have h1:=j6 (fr:=fr);unfold cS;rw[(h1 vs).1,(h1 vs).2];simp only[h];rfl
def Sf{ds:List Sl}(hF:F.length<=1000)(ha:ds.all Sl.gG=true)(h:cj F w n f ds=some c):run F w n (f+1000) ds=some (.int (c:Int),[]):=by
 cases n with
 |zero=>cases h
 |succ n=>
  rw[gf,aaw (by omega)];simp only[ni];rw[mD ⟨Nat.le_add_left _ _,ha⟩,show f+1000 - Ev.xo=f from abC ..];rw[h];rfl
def BD{Q:Fl->Fr->Prop}{vs:List V}{kk:Nat}(h:er P es fr=.ok (vs.map .inr) af)(h2:P f (vs.map .val)=some (v,[]))(q:Q (.ret v) af):Wp (ex P w (.tr f kk es) fr) Q:=by
 have hl:=λvs=>(j6 (fr:=fr) vs).1;have:=iO (P:=P) (f:=f) (fr:=af) h2;simp only[ex,h,ak,hl,this];exact⟨_,_,rfl,q⟩
def xF{Q:Fl->Fr->Prop}{vs:List V}{kk:Nat}(h:er (run F w n) es fr=.ok (vs.map .inr) af)(hF:F.length<=1000)(h2:cj F w n f (vs.map .val)=some c)(hc:c<kk)(q:Q (.ret (.tup [.str [114,101,102,117,115,101,100],.int (c:Int)])) af):Wp (ex (run F w n) w (.tr f kk es) fr) Q:=by
 have hl:=λvs=>(j6 (fr:=fr) vs).1;have ha:(vs.map Sl.val).all Sl.gG=true:=by simp[Sl.gG]
 have h3:=BC (P:=run F w n) (f:=f) (fr:=af) (iQ F w n f _ c h2);have h4:=iO (P:=run F w n) (f:=f+1000) (fr:=af) (Sf hF ha h2);have h5:Bo kk (.int (c:Int))=some (.tup [.str [114,101,102,117,115,101,100],.int (c:Int)]):=by simp only[Bo];rw[mD (by omega)]
 simp only[ex,h,ak,hl,h3];show Wp ((cS (run F w n) (f+1000) (vs.map .inr) af).bind _) Q;rw[h4,ak,h5];exact⟨_,_,rfl,q⟩
end
end Pv
local macro_rules|`(tactic|array_get_dec)=>`(tactic|first
 |exact Pv.aI|exact Pv.aV|exact Pv.Iz
 | (apply Pv.aq;rfl) | (apply Pv.az;rfl)|apply Pv.bg|apply Pv.aK|apply Pv.cT|apply Pv.fQ|apply Pv.b7|apply Pv.Gm|apply Pv.bW|apply Pv.eS
 |apply Pv.VZ|apply Pv.gS|apply Pv.pD|apply Pv.BA  | (apply Pv.lq rfl rfl) | (apply Pv.By rfl)|apply Pv.DR
 |apply Pv.av | (apply Pv.aF rfl) | (apply Pv.Pw rfl)|apply Pv.rQ|apply Pv.BB|apply Pv.ay rfl
 |exact Pv.RZ|exact Pv.rM|exact Pv.eW|exact Pv.Bq|exact Pv.mW|exact Pv.kY|exact Pv.R0
 | (with_reducible assumption)|exact Pv.cB|exact Pv.mX|exact Pv.cC|exact Pv.gm|exact Pv.jw|exact Pv.IA|exact Pv.kK  | exact Pv.qx
 | (show Pv.truthy _=_;rfl) | (show Pv.cY _ _=some _;rfl) | (show Pv.toT _=some _;rfl) | (show Pv.fz _ _=some _;rfl) | (show Pv.fN _=some _;rfl)|assumption)
namespace Pv
open Ev (D bw bq TY BI ME T E Es Eo It S Ss Fn big deep b2i rep bT cL bE aP cut bZ cJ slots)
def Pz(a b:Int):bT (a % 2147483563) b=true:=by have h1:=ab2 a (b:=2147483563) (by decide);have h2:=abE a (b:=2147483563) (by decide);simp[bT];omega
def V2(a b:Int):bT (a % 2147483399) b=true:=by have h1:=ab2 a (b:=2147483399) (by decide);have h2:=abE a (b:=2147483399) (by decide);simp[bT];omega
def PB{l:List V}{j:Int}{v:V}(h:bE l j=some v):cY (.bY l) (.int j)=some v:=h
def PC{l m:List V}:cop .eq (.bY l) (.lst m)=b9 (eE (18+1)) l m:=rfl
def Gp{F:List Fn}{w n c:Nat}(hc:F[c]?=some vn){ns:List Int}(hn:ns.length<=63)(k:Int):run F w (n+1) c [.val (jW ns),.val (.int k)]=some (.int (vp ns k),[]):=by
 refine bV hc rfl (ai (aN (b:=decide (ns=[])) (ay rfl (aK (aq rfl) (fQ aI mW) (PC.trans (Lo ns))) rfl) (λh=>?_) λh=>aD ?_))
 .have h0:=aaG h;exact ai (b8 (bg (az rfl) (aq rfl) (pF rfl)) ⟨by rw[vp,mD h0],rfl⟩)
 .have h0:=aa9 h;have hlen:0<ns.length:=List.length_pos_iff.mpr h0;have UG:(0:Int)<(ns.map V.int).length:=by rw[aag];exact Int.natCast_pos.mpr hlen
  have h30:((ns.map V.int).length:Int)<1073741824:=by rw[aag];omega
  have hm0:=ab2 k (b:=(ns.length:Int)) (by omega);have hlt:(k % (ns.length:Int)).toNat<ns.length:=by have:=abE k (b:=(ns.length:Int)) (by omega);omega
  have hx:bE (ns.map V.int) (k % ((ns.map V.int).length:Int))=some (.int (ns[(k % (ns.length:Int)).toNat]?.getD 0)):=by
   rw[aag,xA hm0,aaj,WR hlt];rfl
  refine ai (b8 (bg (b7 (aq rfl) (bg (aq rfl) (eS (av (aq rfl) aI) zT) (pG UG)) (PB hx)) (bg (az rfl) (bg (aq rfl) (eS (av (aq rfl) aI) zT) (vq UG h30)) (pF rfl)) cB) ⟨?_,rfl⟩);rw[vp,Yv h0,aag]
def iR{F:List Fn}{w n c dr:Nat}(hc:F[c]?=some vn)(hd:F[dr]?=some (xB c)){ns:List Int}(hn:ns.length<=63)(k:Int){many:Int}(hm:0<many):run F w (n+2) dr [.val (jW ns),.val (.int k),.val (.int many)]=some (.int (cP ns k many),[]):=by
 refine bV hd rfl (ai (aY (bg (bg (bg (bg (bW (aF rfl (aq rfl) (aF rfl (aq rfl) aV)) (call2 (Gp hc hn k))) (az rfl) (pG (by decide))) (az rfl) (pF (Pz _ _))) (bg (az rfl) (bg (aq rfl) (az rfl) cB) (pF rfl)) cB) (az rfl) (pG (by decide))) rfl rfl ?_));refine ai (aY (bg (bg (bg (aq rfl) (aq rfl) (pF (Pz _ _))) (bg (aq rfl) (az rfl) (vq (by decide) (by decide))) cB) (az rfl) (pG (by decide))) rfl rfl ?_);exact ai (b8 (bg (bg (bg (bg (bg (aq rfl) (aq rfl) (pF (V2 _ _))) (bg (aq rfl) (az rfl) (vq (by decide) (by decide))) cB) (az rfl) (pG (by decide))) (az rfl) (vq (by decide) (by decide))) (aq rfl) (pG hm)) ⟨rfl,rfl⟩)
noncomputable def fText(dr:Nat):Fn:=⟨3,4,(.cons (.ret (.me .join (.c (.str [])) (.cons (.comp (.ix (.c (.str [97,98,99,32])) (.cl dr (.cons (.v 0) (.cons (.bin .add (.bin .add (.v 1) (.c (.int 1))) (.v 3)) (.cons (.c (.int 4)) .nil))))) (.one 3) (.iU (.cons (.cl dr (.cons (.v 0) (.cons (.v 1) (.cons (.bin .add (.v 2) (.c (.int 1))) .nil)))) .nil)) .no) .nil))) .nil)⟩
noncomputable def IE(dr:Nat):S:=.iff (.cmp .eq (.cl dr (.cons (.v 0) (.cons (.bin .add (.v 1) (.bin .mul (.c (.int 4)) (.v 4))) (.cons (.c (.int 4)) .nil)))) (.c (.int 0))) (.cons (.set 5 (.bin .mul (.ix (.c (.str [97,98,122])) (.cl dr (.cons (.v 0) (.cons (.bin .add (.bin .add (.v 1) (.bin .mul (.c (.int 4)) (.v 4))) (.c (.int 1))) (.cons (.c (.int 3)) .nil))))) (.bin .add (.c (.int 1)) (.cl dr (.cons (.v 0) (.cons (.bin .add (.bin .add (.v 1) (.bin .mul (.c (.int 4)) (.v 4))) (.c (.int 2))) (.cons (.c (.int 2)) .nil))))))) (.cons (.set 3 (.bin .add (.v 3) (.tup (.cons (.tup (.cons (.c (.str [112,117,116])) (.cons (.v 5) .nil))) .nil)))) .nil)) .nil
noncomputable def IF(dr:Nat):S:=.iff (.cmp .lt (.v 4) (.bi .len (.cons (.v 2) .nil))) (.cons (.set 6 (.cmp .gt (.cl dr (.cons (.v 0) (.cons (.bin .add (.bin .add (.v 1) (.bin .mul (.c (.int 4)) (.v 4))) (.c (.int 3))) (.cons (.c (.int 3)) .nil)))) (.c (.int 0)))) (.cons (.set 3 (.bin .add (.v 3) (.tup (.cons (.iX (.v 6) (.tup (.cons (.c (.str [107,101,101,112])) (.cons (.c (.int 1)) .nil))) (.tup (.cons (.c (.str [100,114,111,112])) (.cons (.ix (.v 2) (.v 4)) .nil)))) .nil)))) .nil)) .nil
noncomputable def Lq(dr:Nat):Fn:=⟨3,7,(.cons (.set 3 (.tup .nil)) (.cons (.for (.one 4) (.iU (.cons (.bin .add (.bi .len (.cons (.v 2) .nil)) (.c (.int 1))) .nil)) (.cons (IE dr) (.cons (IF dr) .nil))) (.cons (.ret (.v 3)) .nil)))⟩
inductive Pt where
 |keep (n:Nat)|put (s:List Nat)|drop (s:List Nat)
deriving DecidableEq
noncomputable def bP:List Nat:=[107,101,101,112]
noncomputable def iE:List Nat:=[112,117,116]
noncomputable def fS:List Nat:=[100,114,111,112]
noncomputable def Pt.v:Pt->V
 |.keep n=>.tup [.str bP,.int n]
 |.put s=>.tup [.str iE,.str s]
 |.drop s=>.tup [.str fS,.str s]
noncomputable def aT(c:List Pt):V:=.tup (c.map Pt.v)
def PD(n:Nat)(a b:Pt):eE (n+2) a.v b.v=some (decide (a=b)):=by
 cases a<;>cases b<;>simp[Pt.v,bP,iE,fS]
 all_goals omega
def PF(a b:List Pt):eE deep (aT a) (aT b)=some (decide (a=b)):=by
 simp only[aT,zS];exact tQ (λa b=>PD 17 a b) a b
noncomputable def txt(ns:List Int)(at_ most:Int):List Nat:=(List.range (cP ns at_ (most+1)).toNat).map λ(k:Nat)=>[97,98,99,32].getD (cP ns (at_+1+k) 4).toNat 0
def Lr(ns:List Int)(at_:Int){most:Int}(h:0<=most):(txt ns at_ most).length<=most.toNat:=by
 unfold txt;have h1:=mq ns at_ (many:=most+1) (by omega);have h2:=kI ns at_ (many:=most+1) (by omega);simp;omega
def getD_at{α:Type}{l:List α}{i:Int}(h0:0<=i)(h1:i<l.length)(d:α):bE l i=some (l.getD i.toNat d):=by
 have:i.toNat<l.length:=by omega
 rw[xA h0];simp[List.getD,WR this]
def jB{α β:Type}(l:List α)(f:α->β):(l.map λx=>[f x]).flatten=l.map f:=by induction l<;>simp[*]
def DT(lo:Int)(n:Nat):range lo n=(List.range n).map λ(i:Nat)=>V.int (lo+i):=rfl
section
variable{F:List Fn}{w n c dr t:Nat}(hc:F[c]?=some vn)(hd:F[dr]?=some (xB c)){ns:List Int}(hn:ns.length<=63)
include hc hd hn
theorem Gq(ht:F[t]?=some (fText dr))(k most:Int)(hm:0<=most)(hm2:most<=1000):run F w (n+3) t [.val (jW ns),.val (.int k),.val (.int most)]=some (.str (txt ns k most),[]):=by
 have b0:=kI ns k (many:=most+1) (by omega);have b1:=mq ns k (many:=most+1) (by omega);have d0:=λfr=>iw (fr:=fr) (iR (w:=w) (n:=n) hc hd hn k (many:=most+1) (by omega));have Sg:cK (kZ (run F w (n+2)) (.ix (.c (.str [97,98,99,32])) (.cl dr (.cons (.v 0) (.cons (.bin .add (.bin .add (.v 1) (.c (.int 1))) (.v 3)) (.cons (.c (.int 4)) .nil))))) (.one 3) .no [some (.val (jW ns)),some (.val (.int k)),some (.val (.int most)),none]) (range 0 (cP ns k (most+1)).toNat)=some (((List.range (cP ns k (most+1)).toNat).map λ(j:Nat)=>[[97,98,99,32].getD (cP ns (k+1+j) 4).toNat 0]).map V.str):=by
  rw[DT,abX];refine ow _ _ _ λj _=>?_;have d1:=λfr=>iw (fr:=fr) (iR (w:=w) (n:=n) hc hd hn (k+1+j) (many:=4) (by decide));have ix:cY (.str [97,98,99,32]) (.int (cP ns (k+1+j) 4))=some (.str [[97,98,99,32].getD (cP ns (k+1+j) 4).toNat 0]):=by
   rw[tR,getD_at (l:=[97,98,99,32]) (kI ns (k+1+j) (many:=4) (by decide)) (mq ns (k+1+j) (many:=4) (by decide)) 0];rfl
  rw[show(0:Int)+(j:Int)=j from acR _];exact oA rfl (by (repeat (first|array_get_dec|exact d1 _)))
 have hj:=Iv (l:=(List.range (cP ns k (most+1)).toNat).map λ(j:Nat)=>[[97,98,99,32].getD (cP ns (k+1+j) 4).toNat 0]) (by rw[jB];simp;omega);rw[jB]at hj;have Oa:eN (((List.range (cP ns k (most+1)).toNat).map λ(j:Nat)=>[[97,98,99,32].getD (cP ns (k+1+j) 4).toNat 0]).map V.str)=some (.lst _):=fE (bX (by simp;omega));have rg:=O3 b0 (show cP ns k (most+1)<=100000 by omega);refine bV ht rfl (ai (b8 (By rfl (az rfl) (av (rP (xE (by (repeat (first|array_get_dec|exact d0 _))) rg) rfl Sg Oa) aI) hj) ⟨rfl,rfl⟩))
end
noncomputable def jC(ns:List Int)(at_:Int)(s:List Nat)(k:Nat):List Pt:=
 (if cP ns (at_+4*k) 4=0 then [.put (rep (1+cP ns (at_+4*k+2) 2).toNat [[97,98,122].getD (cP ns (at_+4*k+1) 3).toNat 0])]else [])++
 (match s[k]? with
 |some c=>[if 0<cP ns (at_+4*k+3) 3 then .keep 1 else .drop [c]]
 |none=>[])
noncomputable def fC(ns:List Int)(at_:Int)(s:List Nat)(k:Nat):List Pt:=(List.range k).flatMap (jC ns at_ s)
noncomputable def chg(ns:List Int)(at_:Int)(s:List Nat):List Pt:=fC ns at_ s (s.length+1)
def DU(ns:List Int)(at_:Int)(s:List Nat)(k:Nat):(jC ns at_ s k).length<=2:=by
 unfold jC;split<;>split<;>simp
def j3(ns:List Int)(at_:Int)(s:List Nat)(k:Nat):fC ns at_ s (k+1)=fC ns at_ s k++jC ns at_ s k:=by simp[fC,abZ]
theorem oE(ns:List Int)(at_:Int)(s:List Nat):∀k,(fC ns at_ s k).length<=2*k
 |0=>by simp[fC]
 |k+1=>by
  have h1:=DU ns at_ s k;have h2:=oE ns at_ s k;rw[j3,PX];omega
def PJ(i:Int):bT 4 i=true:=by simp[bT]
def vt{a b:List Pt}(h:a.length+b.length<=100000):bD .add (aT a) (aT b)=some (aT (a++b)):=by
 simp only[aT];rw[xq (by simpa using h)];simp
def PK{j:Int}{n:Nat}(h:n<=100000)(e:j=n):fO [.int j]=some (range 0 n):=by
 subst e;rw[O3 (by omega) (by omega)];rfl
def Ls{a:List Pt}{s:List Nat}(h:a.length<100000):bD .add (aT a) (.tup [.tup [.str [112,117,116],.str s]])=some (aT (a++[.put s])):=vt (a:=a) (b:=[.put s]) (by simp;omega)
def Gr{a:List Pt}{s:List Nat}(h:a.length<100000):bD .add (aT a) (.tup [.tup [.str [100,114,111,112],.str s]])=some (aT (a++[.drop s])):=vt (a:=a) (b:=[.drop s]) (by simp;omega)
def Gs{a:List Pt}(h:a.length<100000):bD .add (aT a) (.tup [.tup [.str [107,101,101,112],.int 1]])=some (aT (a++[.keep 1])):=vt (a:=a) (b:=[.keep 1]) (by simp;omega)
section
variable{F:List Fn}{w n c dr t:Nat}(hc:F[c]?=some vn)(hd:F[dr]?=some (xB c)){ns:List Int}(hn:ns.length<=63)
include hc hd hn
theorem Gu(k:Int)(x:V)(fd:List Pt)(j:Nat)(u v:Option Sl)(hu:vo u)(hfd:fd.length<=10000) :
  Wp (ex (run F w (n+2)) w (IE dr) [some (.val (jW ns)),some (.val (.int k)),some (.val x),some (.val (aT fd)),some (.val (.int j)),u,v]) λg fr=>g=.nx/\∃b,vo b/\fr=[some (.val (jW ns)),some (.val (.int k)),some (.val x),some (.val (aT (fd++if cP ns (k+4*j) 4=0 then [.put (rep (1+cP ns (k+4*j+2) 2).toNat [[97,98,122].getD (cP ns (k+4*j+1) 3).toNat 0])]else []))),some (.val (.int j)),b,v]:=by
 have d1:=λfr=>iw (fr:=fr) (iR (w:=w) (n:=n) hc hd hn (k+4*j) (many:=4) (by decide));have m4:bD .mul (.int 4) (.int j)=some (.int (4*j)):=by rw[qw,PJ];rfl
 refine aN (by (repeat (first|array_get_dec|exact d1 _))) (λh=>?_) λh=>?_
 .have h0:=aaG h;have d2:=λfr=>iw (fr:=fr) (iR (w:=w) (n:=n) hc hd hn (k+4*j+1) (many:=3) (by decide));have d3:=λfr=>iw (fr:=fr) (iR (w:=w) (n:=n) hc hd hn (k+4*j+2) (many:=2) (by decide));have c2:=kI ns (k+4*j+2) (many:=2) (by decide);have c3:=mq ns (k+4*j+2) (many:=2) (by decide);have ix:cY (.str [97,98,122]) (.int (cP ns (k+4*j+1) 3))=some (.str [[97,98,122].getD (cP ns (k+4*j+1) 3).toNat 0]):=by
   rw[tR,getD_at (l:=[97,98,122]) (kI ns (k+4*j+1) (many:=3) (by decide)) (mq ns (k+4*j+1) (many:=3) (by decide)) 0];rfl
  have ml:=Ge (j:=1+cP ns (k+4*j+2) 2) (a:=[[97,98,122].getD (cP ns (k+4*j+1) 3).toNat 0]) (by omega) (by omega) (by simp);have ad:=Ls (a:=fd) (s:=rep (1+cP ns (k+4*j+2) 2).toNat [[97,98,122].getD (cP ns (k+4*j+1) 3).toNat 0]) (by omega);refine ai (aY (by (repeat (first|array_get_dec|exact d2 _|exact d3 _))) rfl (fV rfl hu) ?_);refine ai (aY (by repeat array_get_dec) rfl rfl (aD ?_));rw[mD h0];exact⟨rfl,_,.val,rfl⟩
 .have h0:=aa9 h;rw[Yv h0,aae];exact aD ⟨rfl,u,hu,rfl⟩
theorem Gv(k:Int)(x:List Nat)(hx:x.length<=1000)(fd:List Pt)(j:Nat)(u v:Option Sl)(hv:vo v)(hfd:fd.length<=10000) :
  Wp (ex (run F w (n+2)) w (IF dr) [some (.val (jW ns)),some (.val (.int k)),some (.val (.str x)),some (.val (aT fd)),some (.val (.int j)),u,v]) λg fr=>g=.nx/\∃b,vo b/\fr=[some (.val (jW ns)),some (.val (.int k)),some (.val (.str x)),some (.val (aT (fd++match x[j]? with
     |some c=>[if 0<cP ns (k+4*j+3) 3 then .keep 1 else .drop [c]]
     |none=>[]))),some (.val (.int j)),u,b]:=by
 have ln:dz .len [.str x]=some (.int (x.length:Nat)):=abe (by omega);refine aN (by repeat array_get_dec) (λh=>?_) λh=>?_
 .have hlt:j<x.length:=by have:=aaG h;omega
  have d1:=λfr=>iw (fr:=fr) (iR (w:=w) (n:=n) hc hd hn (k+4*j+3) (many:=3) (by decide));have m4:bD .mul (.int 4) (.int j)=some (.int (4*j)):=by rw[qw,PJ];rfl
  have hg:x[j]?=some x[j]:=WR hlt;have ix:cY (.str x) (.int j)=some (.str [x[j]]):=by rw[tR,gQ,hg];rfl
  rw[hg];refine ai (aY (by (repeat (first|array_get_dec|exact d1 _))) rfl (fV rfl hv) ?_);by_cases hk:0<cP ns (k+4*j+3) 3
  .have ad:=Gs (a:=fd) (by omega);have ht:truthy (.bl (decide (0<cP ns (k+4*j+3) 3)))=true:=aaE hk;refine ai (aY (bg (aq rfl) (cT (av (pq (b:=true) (ay rfl (aq rfl) ht) (λ_=>by repeat array_get_dec) λh=>absurd h (by decide)) aI) rM) ad) rfl rfl (aD ?_));refine⟨rfl,some (.val (.bl (decide (0<cP ns (k+4*j+3) 3)))),.val,?_⟩;simp only[mD hk];rfl
  .have ad:=Gr (a:=fd) (s:=[x[j]]) (by omega);have ht:truthy (.bl (decide (0<cP ns (k+4*j+3) 3)))=false:=aad hk;refine ai (aY (bg (aq rfl) (cT (av (pq (b:=false) (ay rfl (aq rfl) ht) (λh=>absurd h (by decide)) λ_=>by repeat array_get_dec) aI) rM) ad) rfl rfl (aD ?_));refine⟨rfl,some (.val (.bl (decide (0<cP ns (k+4*j+3) 3)))),.val,?_⟩;simp only[Yv hk];rfl
 .have hlt:¬ j<x.length:=by have:=aa9 h;omega
  rw[aaw (by omega),aae];exact aD ⟨rfl,v,hv,rfl⟩
theorem BE(ht:F[t]?=some (Lq dr))(k:Int)(x:List Nat)(hx:x.length<=1000):run F w (n+3) t [.val (jW ns),.val (.int k),.val (.str x)]=some (aT (chg ns k x),[]):=by
 refine bV ht rfl ?_;have ln:dz .len [.str x]=some (.int (x.length:Nat)):=abe (by omega);have rg:fO [.int ((x.length:Nat)+1)]=some (range 0 (x.length+1)):=PK (by omega) (by omega);refine ai (aY (by repeat array_get_dec) rfl rfl ?_);refine ai (jA (xE (av (bg (eS (av (aq rfl) aI) ln) (az rfl) cB) aI) rg) ?_);refine zU (λj fr=>∃a b c,vo a/\vo b/\vo c/\fr=[some (.val (jW ns)),some (.val (.int k)),some (.val (.str x)),some (.val (aT (fC ns k x j))),a,b,c]) (λj fr hj ⟨a,b,c',ha,hb,hc',hfr⟩=>?_) (λfr ⟨a,b,c',ha,hb,hc',hfr⟩=>?_) ⟨none,none,none,.none,.none,.none,rfl⟩
 .subst hfr;have hz:=oE ns k x j;rw[show(0:Int)+(j:Int)=j from acR _];refine dN (bind1 rfl ha) (ai ?_);refine(Gu hc hd hn k (.str x) (fC ns k x j) j b c' hb (by omega)).mono λg fr ⟨q1,b2,hb2,q3⟩=>?_;subst q1 q3;refine ai ?_;refine(Gv hc hd hn k x hx _ j b2 c' hc' (by split<;>simp<;>omega)).mono λg fr ⟨q1,b3,Yr,q3⟩=>?_;subst q1 q3;refine aD ?_;rw[dR];refine⟨some (.val (.int j)),b2,b3,.val,hb2,Yr,?_⟩;rw[j3,jC,aar]
 .subst hfr;refine ai (b8 (v:=aT (chg ns k x)) (af:=[some (.val (jW ns)),some (.val (.int k)),some (.val (.str x)),some (.val (aT (fC ns k x (x.length+1)))),a,b,c']) ?_ ⟨rfl,rfl⟩);have sh:gj [some (.val (jW ns)),some (.val (.int k)),some (.val (.str x)),some (.val (aT (fC ns k x (x.length+1)))),a,b,c']=[some (.val (jW ns)),some (.val (.int k)),some (.val (.str x)),some (.val (aT (fC ns k x (x.length+1)))),a,b,c']:=by
   show _ :: _ :: _ :: _ :: a.map Sl.eF :: b.map Sl.eF :: [c'.map Sl.eF]=_;rw[dU ha,dU hb,dU hc'];rfl
  rw[sh];exact aq rfl
end
noncomputable def Gw:S:=.iff (.cmp .eq (.ix (.v 0) (.c (.int 0))) (.c (.str [107,101,101,112]))) (.cons (.ret (.ix (.v 0) (.c (.int 1)))) .nil) .nil
noncomputable def Gx:S:=.ret (.bi .len (.cons (.ix (.v 0) (.c (.int 1))) .nil))
noncomputable def cQ:Fn:=⟨1,1,(.cons Gw (.cons Gx .nil))⟩
noncomputable def BF(dO:Nat):S:=.ret (.bi .sum (.cons (.comp (.cl dO (.cons (.v 1) .nil)) (.one 1) (.seq (.v 0)) (.yes (.cmp .ne (.ix (.v 1) (.c (.int 0))) (.c (.str [112,117,116]))))) .nil))
noncomputable def fj(dO:Nat):Fn:=⟨1,2,(.cons (BF dO) .nil)⟩
noncomputable def DV(dO:Nat):S:=.ret (.bi .sum (.cons (.comp (.cl dO (.cons (.v 1) .nil)) (.one 1) (.seq (.v 0)) (.yes (.cmp .ne (.ix (.v 1) (.c (.int 0))) (.c (.str [100,114,111,112]))))) .nil))
noncomputable def j7(dO:Nat):Fn:=⟨1,2,(.cons (DV dO) .nil)⟩
noncomputable def Gy:S:=.set 1 (.lst .nil)
noncomputable def Gz:S:=.set 2 (.c (.int 0))
noncomputable def GA:S:=.set 3 (.c (.str []))
noncomputable def GB:S:=.set 4 (.c (.str []))
noncomputable def GC(b6:Nat):Ss:=(.cons (.iff (.cmp .eq (.v 5) (.c (.str [100,114,111,112]))) (.cons (.set 3 (.bin .add (.v 3) (.v 6))) .nil) (.cons (.iff (.cmp .eq (.v 5) (.c (.str [112,117,116]))) (.cons (.set 4 (.bin .add (.v 4) (.v 6))) .nil) (.cons (.iff (.cmp .gt (.v 6) (.c (.int 0))) (.cons (.iff (.orr (.cmp .ne (.v 3) (.c (.str []))) (.cmp .ne (.v 4) (.c (.str [])))) (.cons (.exp (.me .extend (.v 1) (.cons (.cl b6 (.cons (.v 2) (.cons (.v 3) (.cons (.v 4) .nil)))) .nil))) (.cons (.set 2 (.c (.int 0))) (.cons (.set 3 (.c (.str []))) (.cons (.set 4 (.c (.str []))) .nil)))) .nil) (.cons (.set 2 (.bin .add (.v 2) (.v 6))) .nil)) .nil) .nil)) .nil)) .nil)
noncomputable def GD(b6:Nat):S:=.for (.many [5,6]) (.seq (.v 0)) (GC b6)
noncomputable def GF(b6:Nat):S:=.exp (.me .extend (.v 1) (.cons (.cl b6 (.cons (.v 2) (.cons (.v 3) (.cons (.v 4) .nil)))) .nil))
noncomputable def GG:S:=.ret (.gy (.v 1))
noncomputable def eY(b6:Nat):Fn:=⟨1,7,(.cons Gy (.cons Gz (.cons GA (.cons GB (.cons (GD b6) (.cons (GF b6) (.cons GG .nil)))))))⟩
noncomputable def yy:S:=.set 3 (.lst .nil)
noncomputable def yz:S:=.iff (.cmp .gt (.v 0) (.c (.int 0))) (.cons (.exp (.me .append (.v 3) (.cons (.tup (.cons (.c (.str [107,101,101,112])) (.cons (.v 0) .nil))) .nil))) .nil) .nil
noncomputable def qb:S:=.iff (.cmp .ne (.v 1) (.c (.str []))) (.cons (.exp (.me .append (.v 3) (.cons (.tup (.cons (.c (.str [100,114,111,112])) (.cons (.v 1) .nil))) .nil))) .nil) .nil
noncomputable def lN:S:=.iff (.cmp .ne (.v 2) (.c (.str []))) (.cons (.exp (.me .append (.v 3) (.cons (.tup (.cons (.c (.str [112,117,116])) (.cons (.v 2) .nil))) .nil))) .nil) .nil
noncomputable def jD:S:=.ret (.v 3)
noncomputable def cu:Fn:=⟨3,4,(.cons yy (.cons yz (.cons qb (.cons lN (.cons jD .nil)))))⟩
noncomputable def Pt.n:Pt->Nat
 |.keep n=>n
 |.put s=>s.length
 |.drop s=>s.length
noncomputable def tot(c:List Pt):Nat:=(c.map Pt.n).sum
def j8(a b:List Pt):tot (a++b)=tot a+tot b:=by simp[tot]
def dm(p:Pt)(c:List Pt):tot (p :: c)=p.n+tot c:=by simp[tot]
noncomputable def dI:Pt->Bool
 |.put _=>true
 |_=>false
noncomputable def ef:Pt->Bool
 |.drop _=>true
 |_=>false
noncomputable def cZ:Pt->Bool
 |.keep _=>true
 |_=>false
noncomputable def bu(c:List Pt):Nat:=tot (c.filter λp=>!dI p)
noncomputable def cI(c:List Pt):Nat:=tot (c.filter λp=>!ef p)
section
variable{F:List Fn}{w n aC i:Nat}
def qy(hs:F[i]?=some cQ)(p:Pt)(hp:p.n<=100000):run F w (n+1) i [.val p.v]=some (.int p.n,[]):=by
 cases p with
 |keep k=>exact bV hs rfl (ai (aN (b:=true) (ay rfl (aK (b7 (aq rfl) (az rfl) rfl) (az rfl) cC) rfl) (λ_=>ai (b8 (b7 (aq rfl) (az rfl) rfl) ⟨rfl,rfl⟩)) nofun))
 |put s=>exact bV hs rfl (ai (aN (b:=false) (ay rfl (aK (b7 (aq rfl) (az rfl) rfl) (az rfl) cC) rfl) nofun (λ_=>aD (ai (b8 (eS (av (b7 (aq rfl) (az rfl) rfl) aI) (abe hp)) ⟨rfl,rfl⟩)))))
 |drop s=>exact bV hs rfl (ai (aN (b:=false) (ay rfl (aK (b7 (aq rfl) (az rfl) rfl) (az rfl) cC) rfl) nofun (λ_=>aD (ai (b8 (eS (av (b7 (aq rfl) (az rfl) rfl) aI) (abe hp)) ⟨rfl,rfl⟩)))))
def GH{c:List Pt}{p:Pt}(h:p∈c):p.n<=tot c:=by
 induction c with
 |nil=>simp at h
 |cons q c ih=>
  rw[dm];rcases List.mem_cons.mp h with rfl|h
  .omega
  .have:=ih h;omega
def Sh(c:List Pt):(c.map λp=>(p.n:Int)).sum=(tot c:Int):=by
 induction c with
 |nil=>rfl
 |cons p c ih=>simp only[aaa,List.sum_cons,ih,dm];omega
def zZ{word:List Nat}{pr:Pt->Bool}(hs:F[aC]?=some cQ)(hb:F[i]?=some ⟨1,2,.cons (.ret (.bi .sum (.cons (.comp (.cl aC (.cons (.v 1) .nil)) (.one 1) (.seq (.v 0)) (.yes (.cmp .ne (.ix (.v 1) (.c (.int 0))) (.c (.str word))))) .nil))) .nil⟩)
  (hw:∀p:Pt,∃x u,p.v=.tup [.str x,u]/\(!decide (x=word))=pr p) (c:List Pt) (h1:c.length<=10000) (h2:tot c<=100000):run F w (n+2) i [.val (aT c)]=some (.int (tot (c.filter pr)),[]):=by
 refine bV hb rfl (ai (b8 (eS (av (rP (jk (iP rfl) rfl) rfl (xu (e:=Pt.v) (p:=pr) (g:=λp=>.int p.n) c λp hp=>?_) (fE (bX ?_))) aI) ?_) ⟨rfl,rfl⟩))
 .obtain⟨x,u,hx,Ys⟩:=hw p;have hcall:=λfr=>dS (fr:=fr) (qy (w:=w) (n:=n) hs p (aaf (GH hp) h2));rw[hx]at hcall;rw[hx,<-Ys];exact Lp rfl (ay rfl (aK (b7 (aq rfl) (az rfl) rfl) (az rfl) gm) rfl) λ_=>bW (aF rfl (aq rfl) aV) (hcall _)
 .rw[aag];exact aaf (List.length_filter_le _ _) (aaf h1 (by decide))
 .rw[K4,Br (λp:Pt=>(p.n:Int))];show some (V.int _)=_;rw[Sh]
def rS(hs:F[aC]?=some cQ)(hb:F[i]?=some (fj aC))(c:List Pt)(h1:c.length<=10000)(h2:tot c<=100000):run F w (n+2) i [.val (aT c)]=some (.int (bu c),[]):=
 zZ (pr:=λp=>!dI p) hs hb (λp=>by cases p<;>exact⟨_,_,rfl,rfl⟩) c h1 h2
def oG(hs:F[aC]?=some cQ)(hb:F[i]?=some (j7 aC))(c:List Pt)(h1:c.length<=10000)(h2:tot c<=100000):run F w (n+2) i [.val (aT c)]=some (.int (cI c),[]):=
 zZ (pr:=λp=>!ef p) hs hb (λp=>by cases p<;>exact⟨_,_,rfl,rfl⟩) c h1 h2
end
noncomputable def bI(k:Nat)(g w:List Nat):List Pt:=(if 0<k then [.keep k]else [])++(if g=[]then []else [.drop g])++(if w=[]then []else [.put w])
def g9(k:Nat)(g w:List Nat):(bI k g w).length<=3:=by unfold bI;split<;>split<;>split<;>simp
def lO{F:List Fn}{w n i:Nat}(hs:F[i]?=some cu)(k:Nat)(g x:List Nat):run F w (n+1) i [.val (.int k),.val (.str g),.val (.str x)]=some (.lst ((bI k g x).map Pt.v),[]):=by
 refine bV hs rfl ?_;refine ai (eX (l:=[]) (by repeat array_get_dec) rfl rfl ?_);have ap:∀(l:List V) (d:V) (fr:Fr) (i:Nat),l.length<=3->fr[i]?=some (some (.own l))->gK .append i [d] fr fr[i]?=.ok .aU (fr.set i (some (.own (l++[d])))):=λl d fr i h e=>by rw[e];exact j5 (by omega)
 have fin:∀l:List V,Wp (exs (run F w n) w (.cons jD .nil) [some (.val (.int k)),some (.val (.str g)),some (.val (.str x)),some (.own l)]) λg fr=>g=.ret (.lst l)/\outs 3 fr=[]:=λl=>ai (b8 (by repeat array_get_dec) ⟨rfl,rfl⟩);have s3:∀l:List V,l.length<=2->Wp (exs (run F w n) w (.cons lN (.cons jD .nil)) [some (.val (.int k)),some (.val (.str g)),some (.val (.str x)),some (.own l)]) λg fr=>g=.ret (.lst (l++(if x=[]then []else [Pt.put x]).map Pt.v))/\outs 3 fr=[]:=λl hl=>by
  refine ai (aN (by repeat array_get_dec) (λh=>?_) λh=>?_)
  .have hx:x≠[]:=by simpa using h
   refine ai (fR (by (repeat array_get_dec);exact ap _ _ _ _ (by omega) rfl) (aD ?_));rw[Yv hx];exact fin _
  .have hx:x=[]:=by simpa using h
   refine aD ?_;rw[mD hx,abA,aae];exact fin _
 have s2:∀l:List V,l.length<=1->Wp (exs (run F w n) w (.cons qb (.cons lN (.cons jD .nil))) [some (.val (.int k)),some (.val (.str g)),some (.val (.str x)),some (.own l)]) λy fr=>y=.ret (.lst (l++((if g=[]then []else [Pt.drop g])++(if x=[]then []else [Pt.put x])).map Pt.v))/\outs 3 fr=[]:=λl hl=>by
  refine ai (aN (by repeat array_get_dec) (λh=>?_) λh=>?_)
  .have hx:g≠[]:=by simpa using h
   refine ai (fR (by (repeat array_get_dec);exact ap _ _ _ _ (by omega) rfl) (aD ?_));rw[Yv hx,aaq,<-aar];exact s3 _ (by simp;omega)
  .have hx:g=[]:=by simpa using h
   refine aD ?_;rw[mD hx,aaV];exact s3 _ (by omega)
 refine ai (aN (by repeat array_get_dec) (λh=>?_) λh=>?_)
 .have hx:0<k:=by have:=aaG h;omega
  refine ai (fR (by (repeat array_get_dec);exact ap _ _ _ _ (by decide) rfl) (aD ?_));unfold bI;rw[mD hx,aar];exact s2 _ (Ad 1)
 .have hx:¬ 0<k:=by have:=aa9 h;omega
  refine aD ?_;unfold bI;rw[Yv hx];exact s2 _ (by decide)
abbrev FS:=List Pt×Nat×List Nat×List Nat
noncomputable def bM(st:FS):Pt->FS
 |.drop s=>(st.1,st.2.1,st.2.2.1++s,st.2.2.2)
 |.put s=>(st.1,st.2.1,st.2.2.1,st.2.2.2++s)
 |.keep k=>if 0<k then (if st.2.2.1=[]/\st.2.2.2=[]then (st.1,st.2.1+k,[],[])else (st.1++bI st.2.1 st.2.2.1 st.2.2.2,k,[],[]))else st
noncomputable def fH:FS:=([],0,[],[])
noncomputable def cU(st:FS):List Pt:=st.1++bI st.2.1 st.2.2.1 st.2.2.2
noncomputable def bF(c:List Pt):List Pt:=cU (c.foldl bM fH)
def Lu(p:List Pt)(a:Pt):(p++[a]).foldl bM fH=bM (p.foldl bM fH) a:=by simp
def xG(c:List Pt):∀st:FS,(c.foldl bM st).1.length<=st.1.length+3*c.length/\(c.foldl bM st).2.2.1.length<=st.2.2.1.length+tot c/\(c.foldl bM st).2.2.2.length<=st.2.2.2.length+tot c:=by
 induction c with
 |nil=>intro st;simp[tot]
 |cons p c ih=>
  intro st;have h:=ih (bM st p);have h2:(bM st p).1.length<=st.1.length+3/\(bM st p).2.2.1.length<=st.2.2.1.length+p.n/\(bM st p).2.2.2.length<=st.2.2.2.length+p.n:=by
   have:=g9 st.2.1 st.2.2.1 st.2.2.2;cases p with
   |drop s=>simp[bM,Pt.n]
   |put s=>simp[bM,Pt.n]
   |keep k=>
    simp only[bM];split
    .split
     .simp
     .simp;omega
    .simp
  simp only[aaJ,aai,dm];omega
def kM{F:List Fn}{w n aE i:Nat}(hs:F[aE]?=some cu)(hf:F[i]?=some (eY aE))(c:List Pt)(h1:c.length<=10000)(h2:tot c<=10000):run F w (n+2) i [.val (aT c)]=some (aT (bF c),[]):=by
 refine bV hf rfl ?_;refine ai (eX (l:=[]) (by repeat array_get_dec) rfl rfl ?_);refine ai (aY (by repeat array_get_dec) rfl rfl ?_);refine ai (aY (by repeat array_get_dec) rfl rfl ?_);refine ai (aY (by repeat array_get_dec) rfl rfl ?_);refine ai (jA (vs:=c.map Pt.v) (jk (iP rfl) rfl) ?_);have ext:∀(st:FS) (fr:Fr),st.1.length<=30010->gK .extend 1 [.lst ((bI st.2.1 st.2.2.1 st.2.2.2).map Pt.v)] fr (some (some (.own (st.1.map Pt.v))))=.ok .aU (fr.set 1 (some (.own ((cU st).map Pt.v)))):=λst fr h=>by
  have:=g9 st.2.1 st.2.2.1 st.2.2.2;unfold cU;rw[aaq];exact tT (by simp;omega)
 refine fF (e:=Pt.v) (λp l fr=>p++l=c/\∃a b,vo a/\vo b/\fr=[some (.val (aT c)),some (.own ((p.foldl bM fH).1.map Pt.v)),some (.val (.int (p.foldl bM fH).2.1)),some (.val (.str (p.foldl bM fH).2.2.1)),some (.val (.str (p.foldl bM fH).2.2.2)),a,b]) (λp x l fr ⟨hpl,a,b,ha,hb,hfr⟩=>?_) (λp fr ⟨hpl,a,b,ha,hb,hfr⟩=>?_) c [] _ ⟨rfl,none,none,.none,.none,rfl⟩
 .subst hfr;obtain⟨b1,b2,b3⟩:=xG p fH;have hlen:p.length+l.length+1=c.length:=by rw[<-hpl];simp;omega
  have PL:tot p+x.n+tot l=tot c:=by rw[<-hpl,j8,dm];omega
  rw[Lu];have xH:(p++[x])++l=c:=by simpa using hpl
  generalize p.foldl bM fH=st at *
  simp[fH]at b1 b2 b3;have rs:=λfr=>iw (fr:=fr) (lO (w:=w) (n:=n) hs st.2.1 st.2.2.1 st.2.2.2);have ex:=λfr=>ext st fr (by omega);cases x with
  |drop s=>
   have hs:s.length<=tot c:=by simp only[Pt.n]at PL;omega
   have ad:=kH (a:=st.2.2.1) (b:=s) (by omega);refine dN (gq rfl ha rfl hb) (ai (aN (by repeat array_get_dec) (λ_=>?_) λh=>absurd h (by decide)));refine ai (aY (by repeat array_get_dec) rfl rfl (aD (aD ?_)));rw[dR];exact⟨xH,_,_,.val,.val,rfl⟩
  |put s=>
   have hs:s.length<=tot c:=by simp only[Pt.n]at PL;omega
   have ad:=kH (a:=st.2.2.2) (b:=s) (by omega);refine dN (gq rfl ha rfl hb) (ai (aN (by repeat array_get_dec) (λh=>absurd h (by decide)) λ_=>?_));refine ai (aN (by repeat array_get_dec) (λ_=>?_) λh=>absurd h (by decide));refine ai (aY (by repeat array_get_dec) rfl rfl (aD (aD (aD ?_))));rw[dR];exact⟨xH,_,_,.val,.val,rfl⟩
  |keep k=>
   refine dN (gq rfl ha rfl hb) (ai (aN (by repeat array_get_dec) (λh=>absurd h (by decide)) λ_=>?_));refine ai (aN (by repeat array_get_dec) (λh=>absurd h (by decide)) λ_=>?_);refine ai (aN (by repeat array_get_dec) (λh=>?_) λh=>?_)
   .have hk:0<k:=by have:=aaG h;omega
    by_cases hg:st.2.2.1=[]/\st.2.2.2=[]
    .have n1:cop .ne (.str st.2.2.1) (.str [])=some false:=by rw[gm,hg.1];rfl
     have n2:cop .ne (.str st.2.2.2) (.str [])=some false:=by rw[gm,hg.2];rfl
     refine ai (aN (b:=false) (fG (ay rfl (by repeat array_get_dec) rfl) (ay rfl (by repeat array_get_dec) rfl)) (λh=>absurd h (by decide)) λ_=>aD ?_);refine ai (aY (by repeat array_get_dec) rfl rfl (aD (aD (aD (aD ?_)))));rw[dR];refine⟨xH,some (.val (.str bP)),some (.val (.int k)),.val,.val,?_⟩;simp only[bM,mD hk,mD hg];rw[hg.1,hg.2];rfl
    .have tt:aH (run F w (n+1)) (.orr (.cmp .ne (.v 3) (.c (.str []))) (.cmp .ne (.v 4) (.c (.str [])))) [some (.val (aT c)),some (.own (st.1.map Pt.v)),some (.val (.int st.2.1)),some (.val (.str st.2.2.1)),some (.val (.str st.2.2.2)),some (.val (.str bP)),some (.val (.int k))]=.ok true [some (.val (aT c)),some (.own (st.1.map Pt.v)),some (.val (.int st.2.1)),some (.val (.str st.2.2.1)),some (.val (.str st.2.2.2)),some (.val (.str bP)),some (.val (.int k))]:=by
      by_cases h3:st.2.2.1=[]
      .have h4:¬ st.2.2.2=[]:=λz=>hg ⟨h3,z⟩;have n1:cop .ne (.str st.2.2.1) (.str [])=some false:=by rw[gm,h3];rfl
       have n2:cop .ne (.str st.2.2.2) (.str [])=some true:=by rw[gm,aad h4];rfl
       exact fG (ay rfl (by repeat array_get_dec) rfl) (ay rfl (by repeat array_get_dec) rfl)
      .have n1:cop .ne (.str st.2.2.1) (.str [])=some true:=by rw[gm,aad h3];rfl
       exact kJ (ay rfl (by repeat array_get_dec) rfl)
     refine ai (aN tt (λ_=>?_) λh=>absurd h (by decide));refine ai (fR (by (repeat (first|array_get_dec|exact rs _|exact ex _))) ?_);refine ai (aY (by repeat array_get_dec) rfl rfl ?_);refine ai (aY (by repeat array_get_dec) rfl rfl ?_);refine ai (aY (by repeat array_get_dec) rfl rfl (aD ?_));refine ai (aY (by repeat array_get_dec) rfl rfl (aD (aD (aD (aD ?_)))));rw[dR];refine⟨xH,some (.val (.str bP)),some (.val (.int k)),.val,.val,?_⟩;simp only[bM,mD hk,Yv hg];rw[acR];rfl
   .have hk:¬ 0<k:=by have:=aa9 h;omega
    refine aD (aD (aD (aD ?_)));rw[dR];refine⟨xH,some (.val (.str bP)),some (.val (.int k)),.val,.val,?_⟩;simp only[bM,Yv hk];rfl
 .subst hfr;simp at hpl;subst hpl;obtain⟨b1,b2,b3⟩:=xG p fH;have e:bF p=cU (p.foldl bM fH):=rfl;rw[e];generalize p.foldl bM fH=st at *
  simp[fH]at b1 b2 b3;have sl:=g9 st.2.1 st.2.2.1 st.2.2.2;have rs:=λfr=>iw (fr:=fr) (lO (w:=w) (n:=n) hs st.2.1 st.2.2.1 st.2.2.2);have ex:=λfr=>ext st fr (by omega);have mk:toT (.lst ((cU st).map Pt.v))=some (aT (cU st)):=by rw[K5];exact jI (bX (by simp[cU];omega))
  refine ai (fR (by (repeat (first|array_get_dec|exact rs _|exact ex _))) ?_);exact ai (b8 (pD (aq rfl) mk) ⟨rfl,rfl⟩)
noncomputable def lv(o:Option Sl)(l:List V):Prop:=o=some (.own l)\/o=some (.val (.lst l))
section
variable{o:Option Sl}{l:List V}{fr:Fr}{i:Nat}{s:Sl}
theorem lv.own:lv (some (.own l)) l:=.inl rfl
theorem lv.val:lv (some (.val (.lst l))) l:=.inr rfl
def PM(h:lv o l):DP true (some o)=some (.lst l):=by rcases h with rfl|rfl<;>simp
def PN(h:lv o l):zW fr i s (some o)=some (fr.set i (some s)):=by rcases h with rfl|rfl<;>simp
def Lv(h:lv o l):o.map Sl.eF=some (.val (.lst l)):=by rcases h with rfl|rfl<;>simp
end
def GI{P:aL}{fr:Fr}{i:Nat}{k:Bool}{o:Option Sl}{l:List V}(hk:k=true)(e:fr[i]?=some o)(h:lv o l):ev P k (.v i) fr=.ok (.lst l) fr:=by
 subst hk;exact aq (by rw[Lj,e,PM h])
def xJ{fr:Fr}{i:Nat}{s:Sl}{o:Option Sl}{l:List V}(e:fr[i]?=some o)(h:lv o l):put fr i s=some (fr.set i (some s)):=by rw[DQ,e,PN h]
inductive Tq where
 |at (i:Nat)|sg (c:Nat)
deriving DecidableEq
noncomputable def Pt.asks:Pt->List (List Nat)
 |.keep n=>List.replicate n []
 |.drop s=>s.map λc=>[c]
 |.put _=>[]
noncomputable def asks(c:List Pt):List (List Nat):=c.flatMap Pt.asks
noncomputable def Pt.told(k:Nat):Pt->List Tq
 |.keep n=>(List.range n).map λj=>.at (k+j)
 |.drop _=>[]
 |.put s=>s.map .sg
noncomputable def told(k:Nat):List Pt->List Tq
 |[]=>[]
 |p :: c=>p.told k++told (k+p.asks.length) c
def fk(a b:List Pt):asks (a++b)=asks a++asks b:=by simp[asks]
def iF(a b:List Pt):∀k,told k (a++b)=told k a++told (k+(asks a).length) b:=by
 induction a with
 |nil=>intro k;simp[told,asks]
 |cons p a ih=>
  intro k;simp only[aak,told,ih,aar]
  congr 3
  simp[asks];omega
def GJ(p:Pt):p.asks.length<=p.n:=by cases p<;>simp[Pt.asks,Pt.n]
def j9(c:List Pt):(asks c).length<=tot c:=by
 induction c with
 |nil=>simp[asks]
 |cons p c ih=>have:=GJ p;simp only[asks,List.flatMap_cons,PX,dm]at *;omega
noncomputable def bN(c:List Pt):List V:=(asks c).map V.str
noncomputable def lu(c:List Pt):List (List Nat)×List Tq:=(asks c,told 0 c)
def Lx{α:Type}(n:Nat)(a:α):rep n [a]=List.replicate n a:=by
 induction n with
 |zero=>rfl
 |succ n ih=>simp only[rep,xZ,aaW]at ih ⊢;rw[ih];rfl
noncomputable def Pt.word:Pt->List Nat
 |.keep _=>bP
 |.put _=>iE
 |.drop _=>fS
noncomputable def dW(a b:List Nat):Bool:=!(decide (a=b) || (decide (a=iE)&&decide (b=fS)))
noncomputable def jO:List (List Nat)->Bool
 |a :: b :: r=>dW a b&&jO (b :: r)
 |_=>true
noncomputable def DW(p:Pt):Bool:=p.n != 0
noncomputable def eO(c:List Pt):Bool:=jO (c.map Pt.word)&&c.all DW
def fJ(k:Nat)(g x:List Nat):asks (bI k g x)=List.replicate k []++g.map λc=>[c]:=by
  unfold bI;by_cases hk:0<k<;>by_cases hg:g=[]<;>by_cases hx:x=[]<;>simp[hk,hg,hx,asks,Pt.asks]
  all_goals (have:k=0:=by omega
             subst this;simp)
def jl(k:Nat)(g x:List Nat)(j:Nat):told j (bI k g x)=(List.range k).map (λi=>Tq.at (j+i))++x.map Tq.sg:=by
  unfold bI;by_cases hk:0<k<;>by_cases hg:g=[]<;>by_cases hx:x=[]<;>simp[hk,hg,hx,told,Pt.told,Pt.asks]
  all_goals (have:k=0:=by omega
             subst this;simp)
def BG(st:FS)(p:Pt):asks (cU (bM st p))=asks (cU st++[p])/\∀j,told j (cU (bM st p))=told j (cU st++[p]):=by
 obtain⟨ps,k,g,x⟩:=st;have e1:∀a:List Pt,asks (a++[p])=asks a++p.asks:=λa=>by simp[asks]
 have e2:∀(a:List Pt) j,told j (a++[p])=told j a++p.told (j+(asks a).length):=λa j=>by simp[iF,told]
 rw[e1];cases p with
 |drop s=>
  refine⟨by simp[bM,cU,fk,fJ,Pt.asks],λj=>?_⟩;rw[e2];simp[bM,cU,iF,jl,Pt.told]
 |put s=>
  refine⟨by simp[bM,cU,fk,fJ,Pt.asks],λj=>?_⟩;rw[e2];simp[bM,cU,iF,jl,Pt.told]
 |keep m=>
  simp only[bM];split
  .split
   .rename_i h;obtain⟨rfl,rfl⟩:=h;refine⟨by simp[cU,fk,fJ,Pt.asks],λj=>?_⟩;rw[e2];simp[cU,fk,iF,jl,fJ,Pt.told,List.range_add,abR]
   .refine⟨by simp[cU,fk,fJ,Pt.asks],λj=>?_⟩;rw[e2];simp[cU,fk,iF,jl,fJ,Pt.told,abR]
  .rename_i h;have:m=0:=by omega
   subst this;refine⟨by simp[Pt.asks],λj=>?_⟩;rw[e2];simp[Pt.told]
def rT(c:List Pt):∀st:FS,asks (cU (c.foldl bM st))=asks (cU st++c)/\∀j,told j (cU (c.foldl bM st))=told j (cU st++c):=by
 induction c with
 |nil=>intro st;simp
 |cons p c ih=>
  intro st;obtain⟨h1,h2⟩:=ih (bM st p);obtain⟨h3,h4⟩:=BG st p;simp only[aaJ];have e:cU st++p :: c=(cU st++[p])++c:=by simp
  refine⟨?_,λj=>?_⟩
  .rw[h1,e,fk,fk _ c,h3]
  .rw[h2 j,e,iF,iF _ c,h4 j,h3]
def iS(c:List Pt):asks (bF c)=asks c:=by
 have:=(rT c fH).1;simpa[bF,fH,cU,bI]using this
def ly(c:List Pt)(j:Nat):told j (bF c)=told j c:=by
 have:=(rT c fH).2 j;simpa[bF,fH,cU,bI]using this
def mY(c:List Pt):lu (bF c)=lu c:=by simp[lu,iS,ly]
noncomputable def kps(c:List Pt):Nat:=tot (c.filter cZ)
def eG(c:List Pt):(asks c).length=bu c:=by
 induction c with
 |nil=>rfl
 |cons p c ih=>cases p<;>simp[asks,bu,tot,dI,Pt.asks,Pt.n]at ih ⊢<;>omega
def mZ(c:List Pt):∀j,(told j c).length=cI c:=by
 induction c with
 |nil=>intro j;rfl
 |cons p c ih=>intro j;cases p<;>simp[told,cI,tot,ef,Pt.told,Pt.n,ih]at ih ⊢
def pH(n:Nat)(c:List Pt):bu (.keep n :: c)=n+bu c:=by simp[bu,tot,dI,Pt.n]
def pI(s:List Nat)(c:List Pt):bu (.drop s :: c)=s.length+bu c:=by simp[bu,tot,dI,Pt.n]
def pJ(s:List Nat)(c:List Pt):bu (.put s :: c)=bu c:=by simp[bu,tot,dI,Pt.n]
def IG(n:Nat)(c:List Pt):cI (.keep n :: c)=n+cI c:=by simp[cI,tot,ef,Pt.n]
def II(s:List Nat)(c:List Pt):cI (.drop s :: c)=cI c:=by simp[cI,tot,ef,Pt.n]
def IJ(s:List Nat)(c:List Pt):cI (.put s :: c)=s.length+cI c:=by simp[cI,tot,ef,Pt.n]
def Si(n:Nat)(c:List Pt):kps (.keep n :: c)=n+kps c:=by simp[kps,tot,abT,cZ,Pt.n]
def Sj(s:List Nat)(c:List Pt):kps (.drop s :: c)=kps c:=by simp[kps,tot,cZ,Pt.n]
def Sk(s:List Nat)(c:List Pt):kps (.put s :: c)=kps c:=by simp[kps,tot,cZ,Pt.n]
noncomputable def isAt:Tq->Bool
 |.at _=>true
 |_=>false
def DX(c:List Pt):∀j,((told j c).filter isAt).length=kps c:=by
 induction c with
 |nil=>intro j;rfl
 |cons p c ih=>
  intro j;have e1:∀(m:Nat) (f:Nat->Nat),(((List.range m).map λi=>Tq.at (f i)).filter isAt).length=m:=λm f=>by
   rw[List.filter_eq_self.mpr]
   .simp
   .intro a ha;obtain⟨i,_,rfl⟩:=List.mem_map.mp ha;rfl
  have e2:∀s:List Nat,((s.map Tq.sg).filter isAt).length=0:=λs=>by
   rw[List.filter_eq_nil_iff.mpr]
   .rfl
   .intro a ha;obtain⟨i,_,rfl⟩:=List.mem_map.mp ha;simp[isAt]
  cases p with
  |keep m=>simp only[told,Pt.told,ab9,PX,e1,ih,kps,tot,cZ,abT,aan,aaa,List.sum_cons,Pt.n]
  |put s=>simp only[told,Pt.told,ab9,PX,e2,ih,kps,cZ,abT];simp
  |drop s=>simp only[told,Pt.told,ab9,PX,ih,kps,cZ,abT];simp
def DY(c:List Pt):tot c+kps c=bu c+cI c:=by
 induction c with
 |nil=>rfl
 |cons p c ih=>cases p<;>simp only[dm,Pt.n,pH,pI,pJ,IG,II,IJ,Si,Sj,Sk]<;>omega
def iG(c:List Pt):bu (bF c)=bu c:=by rw[<-eG,<-eG,iS]
def GK(c:List Pt):cI (bF c)=cI c:=by rw[<-mZ _ 0,<-mZ _ 0,ly]
def GL(c:List Pt):kps (bF c)=kps c:=by rw[<-DX _ 0,<-DX _ 0,ly]
def kN(c:List Pt):tot (bF c)=tot c:=by
 have h1:=DY (bF c);have h2:=DY c;rw[iG,GK,GL]at h1;omega
theorem pK:∀(a:List (List Nat)) (b:List (List Nat)),jO (a++b)=true↔jO a=true/\jO b=true/\∀x∈a.getLast?,∀y∈b.head?,dW x y=true
 |[],b=>by simp[jO]
 |[x],[]=>by simp[jO]
 |[x],y :: b=>by simp[jO,and_comm]
 |x :: y :: a,b=>by
  have:=pK (y :: a) b;simp only[aak]at this ⊢;simp only[jO,GY,this,List.getLast?_cons_cons];constructor
  .rintro⟨h1,h2,h3,h4⟩;exact⟨⟨h1,h2⟩,h3,h4⟩
  .rintro⟨⟨h1,h2⟩,h3,h4⟩;exact⟨h1,h2,h3,h4⟩
def yC(k:Nat)(g x:List Nat):eO (bI k g x)=true:=by
 unfold bI;by_cases hk:0<k<;>by_cases hg:g=[]<;>by_cases hx:x=[]<;>simp[hk,hg,hx,eO,DW,jO,dW,Pt.word,Pt.n,bP,iE,fS]
 all_goals omega
noncomputable def xN(st:FS):Prop:=eO st.1=true/\(st.1≠[]->0<st.2.1)/\∀p∈st.1.getLast?,p.word≠bP
def pL{a b:List Pt}(ha:eO a=true)(hb:eO b=true)(h:∀p∈a.getLast?,∀q∈b.head?,dW p.word q.word=true):eO (a++b)=true:=by
 simp only[eO,GY]at ha hb ⊢;refine⟨?_,by rw[List.all_append,ha.2,hb.2];rfl⟩;rw[aaq,pK];refine⟨ha.1,hb.1,λx hx y hy=>?_⟩;simp at hx hy;obtain⟨p,hp,rfl⟩:=hx;obtain⟨q,hq,rfl⟩:=hy;exact h p hp q hq
def xO{k:Nat}{g x:List Nat}(hk:0<k):(bI k g x).head?=some (.keep k):=by simp[bI,hk]
def Ly{w:List Nat}(h:w≠bP)(hw:w=iE\/w=fS):dW w bP=true:=by
 rcases hw with rfl|rfl<;>decide
def Lz(p:Pt):p.word=bP\/p.word=iE\/p.word=fS:=by cases p<;>simp[Pt.word]
def xP{st:FS}(h:xN st):eO (cU st)=true:=by
 refine pL h.1 (yC _ _ _) λp hp q hq=>?_;have hne:st.1≠[]:=by intro z;rw[z]at hp;simp at hp
 rw[xO (h.2.1 hne)]at hq;simp at hq;subst hq;have hw:=h.2.2 p hp;exact Ly hw ((Lz p).resolve_left hw)
def xQ{k:Nat}{g x:List Nat}(h:¬ (g=[]/\x=[])):∀p∈(bI k g x).getLast?,p.word≠bP:=by
 unfold bI;by_cases hx:x=[]
 .have hg:g≠[]:=λz=>h ⟨z,hx⟩;intro p hp;simp[hg,hx]at hp;subst hp;simp[Pt.word,fS,bP]
 .intro p hp;simp[hx]at hp;subst hp;simp[Pt.word,iE,bP]
def DZ{st:FS}(h:xN st)(p:Pt):xN (bM st p):=by
 cases p with
 |drop s=>exact h
 |put s=>exact h
 |keep k=>
  simp only[bM];split
  .rename_i hk;split
   .exact⟨h.1,λz=>by simp;omega,h.2.2⟩
   .rename_i UH;refine⟨xP h,λ_=>hk,λp hp=>?_⟩;rw[List.getLast?_append]at hp;cases z:(bI st.2.1 st.2.2.1 st.2.2.2).getLast? with
    |none=>
     exfalso;rw[List.getLast?_eq_none_iff]at z;unfold bI at z;by_cases hx:st.2.2.2=[]<;>by_cases hg:st.2.2.1=[]<;>simp[hx,hg]at z UH
    |some q=>
     rw[z]at hp;simp at hp;subst hp;exact xQ UH q z
  .exact h
def dY(c:List Pt):eO (bF c)=true:=by
 have:∀(c:List Pt) (st:FS),xN st->xN (c.foldl bM st):=λc=>by
  induction c with
  |nil=>exact λst h=>h
  |cons p c ih=>exact λst h=>ih _ (DZ h p)
 exact xP (this c fH ⟨rfl,λz=>absurd rfl z,λp hp=>by simp[fH]at hp⟩)
abbrev Bl:=List Nat×List Nat
abbrev BS:=List Bl×Bl
noncomputable def gr(st:BS):Pt->BS
 |.drop s=>(st.1,(st.2.1++s,st.2.2))
 |.put s=>(st.1,(st.2.1,st.2.2++s))
 |.keep 0=>st
 |.keep (n+1)=>(st.1++st.2 :: List.replicate n ([],[]),([],[]))
noncomputable def D4:BS:=([],([],[]))
noncomputable def blocks(c:List Pt):BS:=c.foldl gr D4
noncomputable def mz(st:List Pt×Nat)(b:Bl):List Pt×Nat:=if b.1=[]/\b.2=[]then (st.1,st.2+1)else (st.1++bI st.2 b.1 b.2,1)
noncomputable def pk(bs:List Bl):List Pt×Nat:=bs.foldl mz ([],0)
def GN(n:Nat):∀st:List Pt×Nat,(List.replicate n (([],[]):Bl)).foldl mz st=(st.1,st.2+n):=by
 induction n with
 |zero=>intro st;simp
 |succ n ih=>intro st;simp[xZ,mz,ih];omega
noncomputable def Aa(st:BS):FS:=((pk st.1).1,(pk st.1).2,st.2.1,st.2.2)
def GO(st:BS)(p:Pt):bM (Aa st) p=Aa (gr st p):=by
 obtain⟨bs,g,x⟩:=st;cases p with
 |drop s=>rfl
 |put s=>rfl
 |keep n=>
  cases n with
  |zero=>rfl
  |succ n=>
   have e:pk (bs++(g,x) :: List.replicate n ([],[]))=((mz (pk bs) (g,x)).1,(mz (pk bs) (g,x)).2+n):=by
    simp only[pk,abM,aaJ,GN]
   simp only[Aa,gr,e,bM,Nat.succ_pos,aan,mz];by_cases h:g=[]/\x=[]
   .simp[h];omega
   .simp[h];omega
def GP(c:List Pt):∀st:BS,c.foldl bM (Aa st)=Aa (c.foldl gr st):=by
 induction c with
 |nil=>intro st;rfl
 |cons p c ih=>intro st;simp only[aaJ,GO,ih]
def qc(c:List Pt):bF c=cU (Aa (blocks c)):=by
 unfold bF blocks;rw[<-GP];rfl
noncomputable def D5(st:List (List Nat)×List Nat):List Nat->List (List Nat)×List Nat
 |[]=>(st.1++[st.2],[])
 |c :: _=>(st.1,st.2++[c])
noncomputable def spT(st:List (List Nat)×List Nat):Tq->List (List Nat)×List Nat
 |.at _=>(st.1++[st.2],[])
 |.sg c=>(st.1,st.2++[c])
def D6(s:List Nat):∀st,(s.map λc=>[c]).foldl D5 st=(st.1,st.2++s):=by
 induction s with
 |nil=>intro st;simp
 |cons c s ih=>intro st;simp[D5,ih]
def GQ(n:Nat):∀st,(List.replicate n []).foldl D5 st=if n=0 then st else (st.1++st.2 :: List.replicate (n - 1) [],[]):=by
 induction n with
 |zero=>intro st;rfl
 |succ n ih=>
  intro st;simp only[xZ,aaJ,D5,ih];cases n with
  |zero=>simp
  |succ n=>simp[xZ]
def D7(s:List Nat):∀st,(s.map Tq.sg).foldl spT st=(st.1,st.2++s):=by
 induction s with
 |nil=>intro st;simp
 |cons c s ih=>intro st;simp[spT,ih]
def GR(n:Nat):∀(k:Nat) st,((List.range n).map λj=>Tq.at (k+j)).foldl spT st=if n=0 then st else (st.1++st.2 :: List.replicate (n - 1) [],[]):=by
 induction n with
 |zero=>intro k st;rfl
 |succ n ih=>
  intro k st;rw[abZ,aaq,abM,ih];cases n with
  |zero=>simp[spT]
  |succ n=>
   simp[spT];rw[<-ab4,xZ]
def rW(c:List Pt):∀st:BS,(asks c).foldl D5 (st.1.map Prod.fst,st.2.1)=((c.foldl gr st).1.map Prod.fst,(c.foldl gr st).2.1):=by
 induction c with
 |nil=>intro st;rfl
 |cons p c ih=>
  intro st;have e:asks (p :: c)=p.asks++asks c:=by simp[asks]
  rw[e,abM,aaJ,<-ih]
  congr 1
  cases p with
  |drop s=>simp[Pt.asks,D6,gr]
  |put s=>simp[Pt.asks,gr]
  |keep n=>
   simp only[Pt.asks,GQ];cases n with
   |zero=>rfl
   |succ n=>simp[gr]
def rX(c:List Pt):∀(k:Nat) (st:BS),(told k c).foldl spT (st.1.map Prod.snd,st.2.2)=((c.foldl gr st).1.map Prod.snd,(c.foldl gr st).2.2):=by
 induction c with
 |nil=>intro k st;rfl
 |cons p c ih=>
  intro k st;rw[told,abM,aaJ,<-ih (k+p.asks.length)]
  congr 1
  cases p with
  |put s=>simp[Pt.told,D7,gr]
  |drop s=>simp[Pt.told,gr]
  |keep n=>
   simp only[Pt.told,GR];cases n with
   |zero=>rfl
   |succ n=>simp[gr]
theorem Ab{α β:Type}:∀{a b:List (α×β)},a.map Prod.fst=b.map Prod.fst->a.map Prod.snd=b.map Prod.snd->a=b
 |[],[],_,_=>rfl
 |[],_ :: _,h,_=>by simp at h
 |_ :: _,[],h,_=>by simp at h
 | (x,y) :: a,(x',y') :: b,h1,h2=>by
  simp at h1 h2;rw[h1.1,h2.1,Ab h1.2 h2.2]
def xR{a b:List Pt}(h:lu a=lu b):blocks a=blocks b:=by
 have hA:asks a=asks b:=aab Prod.fst h;have hT:told 0 a=told 0 b:=aab Prod.snd h;have a1:=rW a D4;have b1:=rW b D4;have a2:=rX a 0 D4;have b2:=rX b 0 D4;rw[hA,b1]at a1;rw[hT,b2]at a2;have e1:=aab Prod.fst a1;have e2:=aab Prod.snd a1;have e3:=aab Prod.fst a2;have e4:=aab Prod.snd a2;unfold blocks;exact Prod.ext (Ab e1.symm e3.symm) (Prod.ext e2.symm e4.symm)
def xS(a b:List Pt):bF a=bF b↔lu a=lu b:=by
 constructor
 .intro h;rw[<-mY a,<-mY b,h]
 .intro h;rw[qc,qc,xR h]
def D8(a:List Pt):bF (bF a)=bF a:=(xS _ _).mpr (mY a)
noncomputable def Pt.sw:Pt->Pt
 |.keep n=>.keep n
 |.put s=>.drop s
 |.drop s=>.put s
noncomputable def sw(c:List Pt):List Pt:=c.map Pt.sw
noncomputable def iH(c:List Pt):List Pt:=bF (sw c)
def PR(c:List Pt):bu (sw c)=cI c:=by
 induction c with
 |nil=>rfl
 |cons p c ih=>cases p<;>simp only[sw,aaa,Pt.sw,pH,pI,pJ,IG,II,IJ]at ih ⊢<;>omega
noncomputable def jy:List Pt->List Nat->Bool
 |[],t=>t.isEmpty
 |.keep n :: c,t=>decide (n<=t.length)&&jy c (t.drop n)
 |.drop s :: c,t=>s.isPrefixOf t&&jy c (t.drop s.length)
 |.put _ :: c,t=>jy c t
noncomputable def vv:List Pt->List Nat->List Nat
 |[],_=>[]
 |.keep n :: c,t=>t.take n++vv c (t.drop n)
 |.drop s :: c,t=>vv c (t.drop s.length)
 |.put s :: c,t=>s++vv c t
noncomputable def eT:List (List Nat)->List Nat->Bool
 |[],[]=>true
 |x :: a,c :: t=>(decide (x=[]) ||decide (x=[c]))&&eT a t
 |_,_=>false
def D9(n:Nat)(a:List (List Nat)):∀t,eT (List.replicate n []++a) t=(decide (n<=t.length)&&eT a (t.drop n)):=by
 induction n with
 |zero=>intro t;simp
 |succ n ih=>
  intro t;cases t with
  |nil=>simp[xZ,eT]
  |cons c t=>simp[xZ,eT,ih]
def Ea(s:List Nat)(a:List (List Nat)):∀t,eT ((s.map λc=>[c])++a) t=(s.isPrefixOf t&&eT a (t.drop s.length)):=by
 induction s with
 |nil=>intro t;simp
 |cons c s ih=>
  intro t;cases t with
  |nil=>simp[eT]
  |cons d t=>
   simp only[aaa,aak,eT,ih,List.isPrefixOf,aai,ab6];by_cases h:c=d<;>simp[h]
def PU(c:List Pt):∀t,jy c t=eT (asks c) t:=by
 induction c with
 |nil=>intro t;cases t<;>rfl
 |cons p c ih=>
  intro t;have e:asks (p :: c)=p.asks++asks c:=by simp[asks]
  rw[e];cases p with
  |keep n=>simp[jy,Pt.asks,D9,ih]
  |drop s=>simp[jy,Pt.asks,Ea,ih]
  |put s=>simp[jy,Pt.asks,ih]
noncomputable def BH(eH:Nat):S:=.ret (.cl eH (.cons (.gy (.comp (.tup (.cons (.gY [(.str [107,101,101,112],.str [107,101,101,112]),(.str [112,117,116],.str [100,114,111,112]),(.str [100,114,111,112],.str [112,117,116])] (.v 1)) (.cons (.v 2) .nil))) (.many [1,2]) (.seq (.v 0)) .no)) .nil))
noncomputable def qz(eH:Nat):Fn:=⟨1,3,(.cons (BH eH) .nil)⟩
def tV(a b:List Pt):bu (a++b)=bu a+bu b:=by simp[bu,tot]
def LA{c:List Pt}:∀{t:List Nat},jy c t=true->t.length=bu c:=by
 induction c with
 |nil=>intro t h;simp[jy]at h;subst h;rfl
 |cons p c ih=>
  intro t h;cases p with
  |keep n=>simp only[jy,GY,abd]at h;have:=ih h.2;rw[pH];simp at this;omega
  |drop s=>
   simp only[jy,GY]at h;have h2:=ih h.2;obtain⟨r,rfl⟩:=List.isPrefixOf_iff_prefix.mp h.1;rw[pI];simp at h2 ⊢;omega
  |put s=>rw[pJ];exact ih h
section
variable{F:List Fn}{w n aO aE i:Nat}
def xU(c:List Pt):tot (sw c)=tot c:=by
 induction c with
 |nil=>rfl
 |cons p c ih=>simp only[sw,aaa,dm]at ih ⊢;rw[ih];cases p<;>rfl
def rY(hst:F[aE]?=some cu)(hf:F[aO]?=some (eY aE))(hu:F[i]?=some (qz aO))(c:List Pt)(h1:c.length<=10000)(h2:tot c<=10000):run F w (n+3) i [.val (aT c)]=some (aT (iH c),[]):=by
 have hl:(c.map λp=>p.sw.v).length<=big:=by rw[aag];exact aaf h1 (by decide)
 have cf:=λfr=>dS (fr:=fr) (kM (w:=w) (n:=n) hst hf (sw c) (by rw[sw,aag];exact h1) (by rw[xU];exact h2));rw[show aT (sw c)=.tup (c.map λp=>p.sw.v)by simp only[aT,sw,abX];rfl]at cf;exact bV hu rfl (ai (b8 (bW (aF rfl (pD (rP (jk (iP rfl) rfl) rfl (ow _ (λp=>p.sw.v) c λp _=>by
  cases p<;>exact oA rfl (cT (av (DR (aq rfl) rfl) (av (aq rfl) aI)) eW)) (fE hl)) (jI hl)) aV) (cf _)) ⟨rfl,rfl⟩))
end
end Pv
namespace Pv
open Ev (rep)
def Eb(ns:List Int)(at_:Int)(s:List Nat)(k:Nat):tot (jC ns at_ s k)<=3:=by
 have h1:=mq ns (at_+4*k+2) (many:=2) (by decide);have h2:=kI ns (at_+4*k+2) (many:=2) (by decide);unfold jC;rw[j8];have a:tot (if cP ns (at_+4*k) 4=0 then [Pt.put (rep (1+cP ns (at_+4*k+2) 2).toNat [[97,98,122].getD (cP ns (at_+4*k+1) 3).toNat 0])]else [])<=2:=by
  split
  .simp[tot,Pt.n,rep];omega
  .simp[tot]
 cases s[k]? with
 |none=>simp[tot]at a ⊢;omega
 |some c=>
  have b:tot [if 0<cP ns (at_+4*k+3) 3 then Pt.keep 1 else Pt.drop [c]]<=1:=by split<;>simp[tot,Pt.n]
  simp only at b ⊢;omega
theorem uY(ns:List Int)(at_:Int)(s:List Nat):∀k,tot (fC ns at_ s k)<=3*k
 |0=>by simp[fC,tot]
 |k+1=>by
  have h1:=Eb ns at_ s k;have h2:=uY ns at_ s k;rw[j3,j8];omega
theorem xV:∀{a b:List (List Nat)}{t u:List Nat},eT a t=true->eT b u=true->eT (a++b) (t++u)=true
 |[],_,[],_,_,hb=>hb
 |x :: a,b,c :: t,u,ha,hb=>by
  simp only[eT,GY]at ha;simp only[aak,eT,GY];exact⟨ha.1,xV ha.2 hb⟩
 |[],_,_ :: _,_,ha,_=>by simp[eT]at ha
 |_ :: _,_,[],_,ha,_=>by simp[eT]at ha
def LC(ns:List Int)(at_:Int)(s:List Nat)(k:Nat):eT (asks (jC ns at_ s k)) (s[k]?).toList=true:=by
 unfold jC;rw[fk];have a:asks (if cP ns (at_+4*k) 4=0 then [Pt.put (rep (1+cP ns (at_+4*k+2) 2).toNat [[97,98,122].getD (cP ns (at_+4*k+1) 3).toNat 0])]else [])=[]:=by
  split<;>simp[asks,Pt.asks]
 rw[a];cases s[k]? with
 |none=>simp[asks,eT]
 |some c=>simp only;split<;>simp[asks,Pt.asks,eT]
theorem Ec(ns:List Int)(at_:Int)(s:List Nat):∀k,eT (asks (fC ns at_ s k)) (s.take k)=true
 |0=>by simp[fC,asks,eT]
 |k+1=>by
  rw[j3,fk,List.take_add_one];exact xV (Ec ns at_ s k) (LC ns at_ s k)
def LD(ns:List Int)(at_:Int)(s:List Nat):jy (chg ns at_ s) s=true:=by
 have:=Ec ns at_ s (s.length+1);rw[aaF (by omega)]at this;rw[PU];exact this
end Pv
namespace Pv
inductive At where
 |k|d (c:Nat)|p (c:Nat)
noncomputable def Pt.aG:Pt->List At
 |.keep n=>List.replicate n .k
 |.drop s=>s.map .d
 |.put s=>s.map .p
noncomputable def aG(c:List Pt):List At:=c.flatMap Pt.aG
def gT(a b:List Pt):aG (a++b)=aG a++aG b:=by simp[aG]
def gM(p:Pt)(c:List Pt):aG (p :: c)=p.aG++aG c:=by simp[aG]
def xW(p:Pt):p.aG.length=p.n:=by cases p<;>simp[Pt.aG,Pt.n]
def fW(c:List Pt):(aG c).length=tot c:=by
 induction c with
 |nil=>rfl
 |cons p c ih=>rw[gM,PX,xW,ih,dm]
noncomputable def tA:Nat->List At->List Tq
 |_,[]=>[]
 |i,.k :: a=>.at i :: tA (i+1) a
 |i,.d _ :: a=>tA (i+1) a
 |i,.p c :: a=>.sg c :: tA i a
noncomputable def aA:List At->List (List Nat)
 |[]=>[]
 |.k :: a=>[] :: aA a
 |.d c :: a=>[c] :: aA a
 |.p _ :: a=>aA a
theorem mC:∀a b:List At,aA (a++b)=aA a++aA b
 |[],_=>rfl
 |.k :: a,b=>by simp[aA,mC a b]
 |.d c :: a,b=>by simp[aA,mC a b]
 |.p c :: a,b=>by simp[aA,mC a b]
theorem rZ:∀(a b:List At) (i:Nat),tA i (a++b)=tA i a++tA (i+(aA a).length) b
 |[],_,_=>rfl
 |.k :: a,b,i=>by simp[tA,aA,rZ a b,abR,aco 1]
 |.d c :: a,b,i=>by simp[tA,aA,rZ a b,abR,aco 1]
 |.p c :: a,b,i=>by simp[tA,aA,rZ a b]
def IK(p:Pt):aA p.aG=p.asks:=by
 cases p with
 |keep n=>simp only[Pt.aG,Pt.asks];induction n<;>simp_all [xZ,aA]
 |drop s=>simp only[Pt.aG,Pt.asks];induction s<;>simp_all [aA]
 |put s=>simp only[Pt.aG,Pt.asks];induction s<;>simp_all [aA]
def Sn(p:Pt):∀i,tA i p.aG=p.told i:=by
 cases p with
 |keep n=>
  simp only[Pt.aG,Pt.told];induction n with
  |zero=>intro i;rfl
  |succ n ih=>intro i;simp only[xZ,tA,ih,acA,aaa,abX];simp[Function.comp_def,abR,aco 1]
 |drop s=>intro i;simp only[Pt.aG,Pt.told];induction s generalizing i<;>simp_all [tA]
 |put s=>intro i;simp only[Pt.aG,Pt.told];induction s generalizing i<;>simp_all [tA]
def eK(c:List Pt):asks c=aA (aG c):=by
 induction c with
 |nil=>rfl
 |cons p c ih=>rw[gM,mC,IK,<-ih];simp[asks]
def m5(c:List Pt):∀i,told i c=tA i (aG c):=by
 induction c with
 |nil=>intro i;rfl
 |cons p c ih=>intro i;rw[gM,rZ,Sn,IK,<-ih,told]
noncomputable def Ed:List At->Bool
 |.d _ :: _=>false
 |_=>true
end Pv
namespace Pv
open Ev (D bw bq TY BI ME T E Es Eo It S Ss Fn big deep b2i rep bT cL bE aP cut bZ cJ slots)
noncomputable def Ef(qA:Nat):S:=.set 2 (.cl qA (.cons (.me .pop (.v 0) .nil) (.cons (.v 1) .nil)))
noncomputable def Eg(dO:Nat):S:=.iff (.cmp .gt (.cl dO (.cons (.ix (.v 2) (.c (.int 1))) .nil)) (.c (.int 0))) (.cons (.exp (.me .append (.v 0) (.cons (.ix (.v 2) (.c (.int 1))) .nil))) .nil) .nil
noncomputable def Eh:S:=.ret (.ix (.v 2) (.c (.int 0)))
noncomputable def ez(qA:Nat)(dO:Nat):Fn:=⟨2,3,(.cons (Ef qA) (.cons (Eg dO) (.cons Eh .nil)))⟩
noncomputable def BJ:S:=.set 2 (.ix (.v 0) (.c (.int 0)))
noncomputable def BK:S:=.iff (.cmp .eq (.v 2) (.c (.str [107,101,101,112]))) (.cons (.ret (.tup (.cons (.tup (.cons (.v 2) (.cons (.v 1) .nil))) (.cons (.tup (.cons (.v 2) (.cons (.bin .sub (.ix (.v 0) (.c (.int 1))) (.v 1)) .nil))) .nil)))) .nil) .nil
noncomputable def BL:S:=.ret (.tup (.cons (.tup (.cons (.v 2) (.cons (.sl (.ix (.v 0) (.c (.int 1))) .no (.yes (.v 1))) .nil))) (.cons (.tup (.cons (.v 2) (.cons (.sl (.ix (.v 0) (.c (.int 1))) (.yes (.v 1)) .no) .nil))) .nil)))
noncomputable def cV:Fn:=⟨2,3,(.cons BJ (.cons BK (.cons BL .nil)))⟩
noncomputable def Pt.tk(m:Nat):Pt->Pt
 |.keep _=>.keep m
 |.put s=>.put (s.take m)
 |.drop s=>.drop (s.take m)
noncomputable def Pt.dp(m:Nat):Pt->Pt
 |.keep k=>.keep (k - m)
 |.put s=>.put (s.drop m)
 |.drop s=>.drop (s.drop m)
def IL{α:Type}(l:List α)(m:Nat):cut l none (some (m:Int))=l.take m:=by
 have h1:¬ (m:Int)<0:=by omega
 simp only[cut,aP,h1,aa2,abl,abH,Nat.sub_zero];by_cases h:m<=l.length
 .rw[abY h]
 .rw[Nat.min_eq_right (by omega),aaF (Ad _),aaF (by omega)]
def IM{α:Type}(l:List α)(m:Nat):cut l (some (m:Int)) none=l.drop m:=by
 have h1:¬ (m:Int)<0:=by omega
 simp only[cut,aP,h1,aa2,abl];by_cases h:m<=l.length
 .rw[abY h,aaF (by simp)]
 .rw[Nat.min_eq_right (by omega),acC (Ad _),acC (by omega)];simp
section
variable{F:List Fn}{w n aR aC i:Nat}
def BN(hf:F[i]?=some cV)(p:Pt)(m:Nat)(h:m<=p.n):run F w (n+1) i [.val p.v,.val (.int m)]=some (.tup [(p.tk m).v,(p.dp m).v],[]):=by
 refine bV hf rfl ?_;cases p with
 |keep k=>
  refine ai (aY (by repeat array_get_dec) rfl rfl ?_);refine ai (aN (by repeat array_get_dec) (λ_=>?_) λh=>absurd h (by decide));refine ai (b8 (by repeat array_get_dec) ⟨?_,rfl⟩);have:(k:Int) - m=((k - m:Nat):Int):=by simp only[Pt.n]at h;omega
  exact aab (λz=>Fl.ret (V.tup [V.tup [V.str bP,V.int m],V.tup [V.str bP,V.int z]])) this
 |put s=>
  have c1:iZ (.str s) none (some (m:Int))=some (.str (s.take m)):=by rw[pg,IL]
  have c2:iZ (.str s) (some (m:Int)) none=some (.str (s.drop m)):=by rw[pg,IM]
  refine ai (aY (by repeat array_get_dec) rfl rfl ?_);refine ai (aN (by repeat array_get_dec) (λh=>absurd h (by decide)) λ_=>aD ?_);exact ai (b8 (by repeat array_get_dec) ⟨rfl,rfl⟩)
 |drop s=>
  have c1:iZ (.str s) none (some (m:Int))=some (.str (s.take m)):=by rw[pg,IL]
  have c2:iZ (.str s) (some (m:Int)) none=some (.str (s.drop m)):=by rw[pg,IM]
  refine ai (aY (by repeat array_get_dec) rfl rfl ?_);refine ai (aN (by repeat array_get_dec) (λh=>absurd h (by decide)) λ_=>aD ?_);exact ai (b8 (by repeat array_get_dec) ⟨rfl,rfl⟩)
def qB(m:Nat)(p:Pt):(p.dp m).n=p.n - m:=by cases p<;>simp[Pt.dp,Pt.n]
def Ei(hs:F[aC]?=some cQ)(hp:F[aR]?=some cV)(hf:F[i]?=some (ez aR aC))(L:List V)(p:Pt)(m:Nat)(h:m<=p.n)(hn:p.n<=100000)(hL:L.length<=10000) :
  run F w (n+2) i [.bor (L++[p.v]),.val (.int m)]=some ((p.tk m).v,[L++if 0<p.n - m then [(p.dp m).v]else []]):=by
 refine bV hf rfl ?_;have c1:=λfr=>call2 (fr:=fr) (BN (F:=F) (w:=w) (n:=n) hp p m h);have c2:=λfr=>dS (fr:=fr) (qy (F:=F) (w:=w) (n:=n) hs (p.dp m) (by rw[qB];omega));have po:∀fr:Fr,gK .pop 0 [] fr (some (some (.bor (L++[p.v]))))=.ok p.v (fr.set 0 (some (.bor L))):=λfr=>Ln;have ap:∀fr:Fr,gK .append 0 [(p.dp m).v] fr (some (some (.bor L)))=.ok .aU (fr.set 0 (some (.bor (L++[(p.dp m).v])))):=λfr=>Ll (by omega);refine ai (aY (by (repeat (first|array_get_dec|exact po _|exact c1 _))) rfl rfl ?_);refine ai (aN (by (repeat (first|array_get_dec|exact c2 _))) (λh=>?_) λh=>?_)
 .have h':=aaG h;rw[qB]at h';rw[mD (by omega)];refine ai (fR (by (repeat (first|array_get_dec|exact ap _))) (aD ?_));exact ai (b8 (by repeat array_get_dec) ⟨rfl,rfl⟩)
 .have h':=aa9 h;rw[qB]at h';rw[Yv (by omega),aae];exact aD (ai (b8 (by repeat array_get_dec) ⟨rfl,rfl⟩))
def jz{l:List V}{v:V}:cY (.lst (l++[v])) (.int (-1))=some v:=by rw[gR,oz];simp
def So{l:List V}{v:V}:truthy (.lst (l++[v]))=true:=by simp
def Sq{P:aL}{f i:Nat}{fr:Fr}{b v:V}{l l':List V}(e:fr[i]?=some (some (.own l)))(h:P f [.bor l,.val b]=some (v,[l'])):cS P f [.inl i,.inr b] fr=.ok v (fr.set i (some (.own l'))):=by
 have e1:lent fr i=some (.bor l):=by rw[tS,e];rfl
 simp[cS,bK,args,e1,h,back,e,Sl.with]
def fX{c:List Pt}(h:eO c=true):∀p∈c,0<p.n:=λp hp=>by
 simp only[eO,GY,List.all_eq_true]at h;have:=h.2 p hp;simp only[DW,bne_iff_ne,ne_eq]at this;omega
theorem fY:∀{c:List Pt},(∀p∈c,0<p.n)->c.length<=tot c
 |[],_=>by simp[tot]
 |p :: c,h=>by
  have h1:=h p (by simp);have h2:=fY (c:=c) λq hq=>h q (by simp[hq]);rw[dm,aai];omega
def BO{p:Pt}{m:Nat}(h:m<=p.n):(p.tk m).aG++(p.dp m).aG=p.aG/\(p.tk m).n=m:=by
 cases p with
 |keep k=>simp only[Pt.n]at h;simp[Pt.tk,Pt.dp,Pt.aG,Pt.n,h]
 |put s=>simp only[Pt.n]at h;simp[Pt.tk,Pt.dp,Pt.aG,Pt.n,h,<-aaq]
 |drop s=>simp only[Pt.n]at h;simp[Pt.tk,Pt.dp,Pt.aG,Pt.n,h,<-aaq]
noncomputable def kO(m:Nat)(p:Pt):List Pt:=if 0<p.n - m then [p.dp m]else []
def LF{p:Pt}{m:Nat}(h:m<=p.n):p.aG=(p.tk m).aG++aG (kO m p):=by
 rw[<- (BO h).1]
 congr 1
 unfold kO;split
 .simp[aG]
 .rename_i hz;have:(p.dp m).aG.length=0:=by rw[xW,qB];omega
  rw[List.length_eq_zero_iff.mp this];rfl
def LG(m:Nat)(p:Pt):∀q∈kO m p,0<q.n:=λq hq=>by
 unfold kO at hq;split at hq
 .simp at hq;subst hq;rw[qB];omega
 .simp at hq
def LH(m:Nat)(p:Pt)(A:List Pt):((kO m p++A).map Pt.v).reverse=(A.map Pt.v).reverse++if 0<p.n - m then [(p.dp m).v]else []:=by
 unfold kO;split<;>simp
def LI(m:Nat)(p:Pt):tot (kO m p)=p.n - m:=by
 unfold kO;split
 .simp[tot,qB]
 .simp[tot];omega
end
end Pv
namespace Pv
open Ev (deep big rep cut bE)
noncomputable def YL:At->Bool
 |.p _=>false
 |_=>true
def GS{a b:List Pt}(h:aG a=aG b):bF a=bF b:=(xS a b).mpr (by simp only[lu,eK,m5,h])
noncomputable def xX:List At->Bool
 |.p _ :: _=>false
 |_=>true
structure Cut(c:List Pt)(p:Nat)(A B:List Pt):Prop where
 at_:aG A++aG B=aG (bF c)
 bA:bu A=p
 hd:xX (aG B)=true
 pA:∀q∈A,0<q.n
 pB:∀q∈B,0<q.n
 fA:eO A=true
 fB:eO B=true
section
variable{c A B:List Pt}{p:Nat}
def xY(c:List Pt):bu c=(aA (aG c)).length:=by rw[<-eK,eG]
def Cut.PY(h:Cut c p A B):p+bu B=bu c:=by rw[<-iG c,xY (bF c),<-h.at_,mC,PX,<-xY,<-xY,h.bA]
def Cut.GU(h:Cut c p A B):tot A+tot B=tot c:=by rw[<-kN c,<-fW (bF c),<-h.at_,PX,fW,fW]
def Cut.lA(h:Cut c p A B):A.length<=tot A:=fY h.pA
end
end Pv
namespace Pv
open Ev (D bw bq TY BI ME T E Es Eo It S Ss Fn big deep rep cut bE)
noncomputable def LJ(qC:Nat):S:=.iff (.orr (.cmp .lt (.v 1) (.c (.int 0))) (.cmp .gt (.v 1) (.cl qC (.cons (.v 0) .nil)))) (.cons (.eU 2) .nil) .nil
noncomputable def LK(eH:Nat):S:=.set 2 (.gU (.rev (.cl eH (.cons (.v 0) .nil))))
noncomputable def LL:S:=.set 3 (.lst .nil)
noncomputable def LM:S:=.set 4 (.v 1)
noncomputable def tW(dO:Nat)(mE:Nat):Ss:=(.cons (.iff (.cmp .eq (.ix (.ix (.v 2) (.neg (.c (.int 1)))) (.c (.int 0))) (.c (.str [112,117,116]))) (.cons (.exp (.me .append (.v 3) (.cons (.me .pop (.v 2) .nil) .nil))) .nil) (.cons (.set 5 (.bi .min (.cons (.v 4) (.cons (.cl dO (.cons (.ix (.v 2) (.neg (.c (.int 1)))) .nil)) .nil)))) (.cons (.exp (.me .append (.v 3) (.cons (.cl mE (.cons (.v 2) (.cons (.v 5) .nil))) .nil))) (.cons (.set 4 (.bin .sub (.v 4) (.v 5))) .nil)))) .nil)
noncomputable def LN(dO:Nat)(mE:Nat):S:=.jU (.an (.v 2) (.orr (.cmp .gt (.v 4) (.c (.int 0))) (.cmp .eq (.ix (.ix (.v 2) (.neg (.c (.int 1)))) (.c (.int 0))) (.c (.str [112,117,116]))))) (tW dO mE)
noncomputable def Ac:S:=.ret (.tup (.cons (.gy (.v 3)) (.cons (.jS (.v 2)) .nil)))
noncomputable def j4(qC:Nat)(eH:Nat)(dO:Nat)(mE:Nat):Fn:=⟨2,6,(.cons (LJ qC) (.cons (LK eH) (.cons LL (.cons LM (.cons (LN dO mE) (.cons Ac .nil))))))⟩
section
variable{F:List Fn}{w n aC aE aO aW aR aX i:Nat}
noncomputable def gO(c:List Pt)(p:Nat)(R C:List Pt)(l:Nat)(a:Option Sl):Fr:=[some (.val (aT c)),some (.val (.int p)),some (.own (R.map Pt.v).reverse),some (.own (C.map Pt.v)),some (.val (.int l)),a]
noncomputable def r8(C R:List Pt)(l:Nat):Prop:=eO C=true/\eO R=true/\((∀x∈C.getLast?,∀y∈R.head?,dW x.word y.word=true)\/l=0/\∀y∈R.head?,dI y=false)
noncomputable def IP(c:List Pt)(p k:Nat)(fr:Fr):Prop:=∃R C l a,r8 C R l/\aG C++aG R=aG (bF c)/\bu C+l=p/\l<=bu R/\(∀q∈R,0<q.n)/\(∀q∈C,0<q.n)/\k=tot R/\vo a/\fr=gO c p R C l a
noncomputable def Yt:E:=.an (.v 2) (.orr (.cmp .gt (.v 4) (.c (.int 0))) (.cmp .eq (.ix (.ix (.v 2) (.neg (.c (.int 1)))) (.c (.int 0))) (.c (.str [112,117,116]))))
def dZ{q:Pt}{R:List Pt}(h:eO (q :: R)=true):eO R=true/\eO [q]=true/\∀y∈R.head?,dW q.word y.word=true:=by
 simp only[eO,GY,aaa,acL]at h ⊢;cases R with
 |nil=>exact⟨⟨rfl,rfl⟩,⟨rfl,by simp[h.2.1]⟩,λy hy=>by cases hy⟩
 |cons r R=>
  have:=pK [q.word] ((r :: R).map Pt.word);have h2:=this.mp h.1;exact⟨⟨h2.2.1,h.2.2⟩,⟨rfl,by simp[h.2.1]⟩,λy hy=>by simp at hy;subst hy;exact h2.2.2 _ (by simp) _ (by simp)⟩
def GV{q:Pt}{R:List Pt}(h:eO R=true)(hq:0<q.n)(hr:∀y∈R.head?,dW q.word y.word=true):eO (q :: R)=true:=
 pL (a:=[q]) (b:=R) (by simp[eO,jO,DW];omega) h λp hp y hy=>by simp at hp;subst hp;exact hr y hy
def r8.put{C R:List Pt}{q:Pt}{l:Nat}(h:r8 C (q :: R) l)(hq:dI q=true):r8 (C++[q]) R l:=by
 obtain⟨h1,h2,h3⟩:=h;obtain⟨t1,t2,t3⟩:=dZ h2;rcases h3 with h3|⟨_,h3⟩
 .exact⟨pL h1 t2 λp hp y hy=>by simp at hy;subst hy;exact h3 p hp _ (by simp),t1,.inl λx hx y hy=>by simp at hx;subst hx;exact t3 y hy⟩
 .have:=h3 q (by simp);rw[hq]at this;cases this
def tY(m:Nat)(q:Pt):(q.tk m).word=q.word/\(q.dp m).word=q.word:=by cases q<;>exact⟨rfl,rfl⟩
def r8.two{C R:List Pt}{q:Pt}{l m:Nat}(h:r8 C (q :: R) l)(l0:0<l)(hq:dI q=false)(m0:0<m)(hm:m<=q.n)(UI:m=l\/m=q.n):r8 (C++[q.tk m]) (kO m q++R) (l - m):=by
 obtain⟨h1,h2,h3⟩:=h;obtain⟨t1,t2,t3⟩:=dZ h2;rcases h3 with h3|⟨h3,_⟩
 .have hn:=(BO hm).2;refine⟨pL h1 (by simp[eO,jO,DW];omega) λp hp y hy=>by simp at hy;subst hy;rw[(tY m q).1];exact h3 p hp _ (by simp),?_,?_⟩
  .unfold kO;split
   .rename_i hlt;exact GV t1 (by rw[qB];exact hlt) λy hy=>by rw[(tY m q).2];exact t3 y hy
   .exact t1
  .unfold kO;split
   .exact .inr ⟨by omega,λy hy=>by simp at hy;subst hy;cases q<;>first|rfl|cases hq⟩
   .refine .inl λx hx y hy=>?_;simp at hx;subst hx;rw[(tY m q).1];exact t3 y hy
 .omega
def PZ{q:Pt}{m:Nat}(h:m<=q.n)(hq:dI q=false):bu [q.tk m]=m:=by
 cases q with
 |put s=>cases hq
 |keep k=>simp[Pt.tk,bu,tot,dI,Pt.n]
 |drop s=>simp[Pt.tk,bu,tot,dI,Pt.n]at h ⊢;omega
def LO{q:Pt}{m:Nat}(hq:dI q=false):bu (kO m q)=q.n - m:=by
 cases q with
 |put s=>cases hq
 |keep k=>unfold kO;split<;>simp[Pt.dp,bu,tot,dI,Pt.n]at *<;>omega
 |drop s=>unfold kO;split<;>simp[Pt.dp,bu,tot,dI,Pt.n]at *<;>omega
def GW{q:Pt}{R:List Pt}(hq:dI q=false):bu (q :: R)=q.n+bu R:=by cases q<;>simp_all [bu,tot,dI,Pt.n]
def P0{q:Pt}{m:Nat}(h:m<=q.n)(h0:0<m):0<(q.tk m).n:=by rw[(BO h).2];exact h0
def P1(hs:F[aC]?=some cQ){c:List Pt}{p:Nat}(R C:List Pt)(s:List Nat)(l:Nat)(a:Option Sl)(hJ:r8 C (.put s :: R) l)(hC:aG C++aG (.put s :: R)=aG (bF c))(hl:bu C+l=p)(hb:l<=bu (.put s :: R))(hR:∀q∈Pt.put s :: R,0<q.n)(pC:∀q∈C,0<q.n)(lC:C.length<=5000)(ha:vo a) :
  Wp (exs (run F w (n+2)) w (tW aC aX) (gO c p (.put s :: R) C l a)) λg fr=>g=.nx/\∃j,j<tot (.put s :: R)/\IP c p j fr:=by
 have ap:∀fr:Fr,gK .append 3 [(Pt.put s).v] fr (some (some (.own (C.map Pt.v))))=.ok .aU (fr.set 3 (some (.own ((C++[Pt.put s]).map Pt.v)))):=λfr=>by
  rw[aaq];exact j5 (by simp;omega)
 unfold gO;rw[aaa,aay];refine ai (aN (b:=true) (ay rfl (by (repeat (first|array_get_dec|exact jz))) rfl) (λ_=>?_) λh=>absurd h (by decide));refine ai (fR (by (repeat (first|array_get_dec|exact Lm|exact ap _))) (aD (aD ?_)));have h0:=hR _ (.head _);refine⟨rfl,tot R,by rw[dm];omega,R,C++[.put s],l,a,hJ.put rfl,?_,?_,?_,λq hq=>hR q (.tail _ hq),λq hq=>?_,rfl,ha,rfl⟩
 .rw[<-hC,gT,gM];simp[aG]
 .rw[tV];simp[bu,tot,dI]at hl ⊢;exact hl
 .rw[pJ]at hb;exact hb
 .rcases List.mem_append.mp hq with hq|hq
  .exact pC q hq
  .rw[List.mem_singleton.mp hq];exact h0
def P4(hs:F[aC]?=some cQ)(hp:F[aR]?=some cV)(ht:F[aX]?=some (ez aR aC)){c:List Pt}{p:Nat}(R C:List Pt)(q:Pt)(l:Nat)(a:Option Sl)(hJ:r8 C (q :: R) l)(hq:dI q=false)(l0:0<l)(hC:aG C++aG (q :: R)=aG (bF c))(hl:bu C+l=p)(hb:l<=bu (q :: R))
  (hR:∀x∈q :: R,0<x.n) (pC:∀x∈C,0<x.n) (lC:C.length<=5000) (lR:tot (q :: R)<=5000) (ha:vo a) :
  Wp (exs (run F w (n+2)) w (tW aC aX) (gO c p (q :: R) C l a)) λg fr=>g=.nx/\∃j,j<tot (q :: R)/\IP c p j fr:=by
 have q0:=hR q (.head _);rw[dm]at lR;have l2:=fY (c:=R) λx hx=>hR x (.tail _ hx);obtain⟨m,hm1,hm2,UI⟩:∃m:Nat,m<=l/\m<=q.n/\(m=l\/m=q.n):=⟨min l q.n,by omega,by omega,by omega⟩
 have m0:0<m:=by omega
 have mn:dz .min [.int l,.int q.n]=some (.int m):=by
  rw[O1];split
  .congr 2;omega
  .congr 2;omega
 have z1:=λfr=>dS (fr:=fr) (qy (F:=F) (w:=w) (n:=n+1) hs q (by omega));have t1:=Ei (F:=F) (w:=w) (n:=n) hs hp ht (R.map Pt.v).reverse q m hm2 (by omega) (by simp;omega);rw[<-LH]at t1;have ap:∀fr:Fr,gK .append 3 [(q.tk m).v] fr (some (some (.own (C.map Pt.v))))=.ok .aU (fr.set 3 (some (.own ((C++[q.tk m]).map Pt.v)))):=λfr=>by
  rw[aaq];exact j5 (by simp;omega)
 have fin:(Fl.nx=Fl.nx/\∃j,j<tot (q :: R)/\IP c p j (gO c p (kO m q++R) (C++[q.tk m]) (l - m) (some (.val (.int m))))):=by
  refine⟨rfl,_,?_,_,_,_,_,hJ.two l0 hq m0 hm2 UI,?_,?_,?_,?_,?_,rfl,.val,rfl⟩
  .rw[j8,LI,dm];omega
  .rw[<-hC,gT,gT,gM q,LF hm2];simp[aG]
  .rw[tV,PZ hm2 hq];omega
  .rw[tV,LO hq];rw[GW hq]at hb;omega
  .intro x hx;rcases List.mem_append.mp hx with hx|hx
   .exact LG m q x hx
   .exact hR x (.tail _ hx)
  .intro x hx;rcases List.mem_append.mp hx with hx|hx
   .exact pC x hx
   .rw[List.mem_singleton.mp hx];exact P0 hm2 m0
 have sb:bD .sub (.int (l:Int)) (.int (m:Int))=some (.int ((l - m:Nat):Int)):=by rw[mX];congr 2;omega
 unfold gO at fin ⊢;rw[aaa,aay];have P5:aH (run F w (n+2)) (.cmp .eq (.ix (.ix (.v 2) (.neg (.c (.int 1)))) (.c (.int 0))) (.c (.str [112,117,116]))) [some (.val (aT c)),some (.val (.int p)),some (.own ((R.map Pt.v).reverse++[q.v])),some (.own (C.map Pt.v)),some (.val (.int l)),a]=.ok false [some (.val (aT c)),some (.val (.int p)),some (.own ((R.map Pt.v).reverse++[q.v])),some (.own (C.map Pt.v)),some (.val (.int l)),a]:=by
  cases q with
  |put s=>cases hq
  |keep k=>exact ay rfl (by (repeat (first|array_get_dec|exact jz))) rfl
  |drop s=>exact ay rfl (by (repeat (first|array_get_dec|exact jz))) rfl
 refine ai (aN P5 (λh=>absurd h (by decide)) λ_=>?_);refine ai (aY (by (repeat (first|exact mn|array_get_dec|exact jz|exact z1 _))) rfl (fV rfl ha) ?_);refine ai (fR (by (repeat (first|array_get_dec|exact Sq rfl t1|exact ap _))) ?_);exact ai (aY (by (repeat (first|exact sb|array_get_dec))) rfl rfl (aD (aD fin)))
def pM(hst:F[aE]?=some cu)(hf:F[aO]?=some (eY aE))(hs:F[aC]?=some cQ)(hp:F[aR]?=some cV)(ht:F[aX]?=some (ez aR aC))(hb:F[aW]?=some (fj aC))(hd:F[i]?=some (j4 aW aO aC aX))(hw:5000<w)
  (c:List Pt) (p:Nat) (h1:c.length<=5000) (h2:tot c<=4000) (h:p<=bu c):∃A B,run F w (n+3) i [.val (aT c),.val (.int p)]=some (.tup [aT A,aT B],[])/\Cut c p A B:=by
 have c1:=λfr=>dS (fr:=fr) (rS (F:=F) (w:=w) (n:=n) hs hb c (by omega) (by omega));have c2:=λfr=>dS (fr:=fr) (kM (F:=F) (w:=w) (n:=n) hst hf c (by omega) (by omega));have t1:=kN c;have g1:=fY (fX (dY c));have m1:eN ((bF c).map Pt.v).reverse=some (.lst ((bF c).map Pt.v).reverse):=fE (bX (by simp;omega));have n1:cop .lt (.int (p:Int)) (.int 0)=some false:=by rw[kK];simp
 have n2:cop .gt (.int (p:Int)) (.int (bu c))=some false:=by rw[qx];simp;omega
 have key:Wp (exs (run F w (n+2)) w (j4 aW aO aC aX).body (dM (j4 aW aO aC aX) [.val (aT c),.val (.int p)])) λg fr=>∃A B,Cut c p A B/\g=.ret (.tup [aT A,aT B])/\outs 2 fr=[]:=by
  refine ai (aN (b:=false) (fG (ay rfl (aK (aq rfl) (az rfl) n1) rfl) (ay rfl (aK (aq rfl) (bW (aF rfl (aq rfl) aV) (c1 _)) n2) rfl)) (λh=>absurd h (by decide)) λ_=>aD ?_);refine ai (eX (l:=((bF c).map Pt.v).reverse) (BA (Px (bW (aF rfl (aq rfl) aV) (c2 _)) rfl) m1) rfl rfl ?_);refine ai (eX (l:=[]) (by repeat array_get_dec) rfl rfl ?_);refine ai (aY (aq rfl) rfl rfl ?_);refine ai (Sd (xx (IP c p) (λk fr hI=>?_) w (tot (bF c)) _ (by omega) ⟨bF c,[],p,none,⟨rfl,dY c,.inl λx hx=>by cases hx⟩,rfl,by simp[bu,tot],by rw[iG];exact h,fX (dY c),(λq hq=>by cases hq),rfl,.none,rfl⟩));obtain⟨R,C,l,a,hJ,hC,hl,P6,hR,pC,hkk,P7,rfl⟩:=hI;have ln:=aab List.length hC;rw[PX,fW,fW,fW]at ln;have lC:=fY pC;have lR:=fY hR;have fin:l=0->xX (aG R)=true->nx (run F w (n+2)) w (.cons Ac .nil) (λg fr=>∃A B,Cut c p A B/\g=.ret (.tup [aT A,aT B])/\outs 2 fr=[]) .nx (gO c p R C l a):=λe0 e1=>by
   have sh:gj (gO c p R C l a)=[some (.val (aT c)),some (.val (.int p)),some (.val (.lst (R.map Pt.v).reverse)),some (.val (.lst (C.map Pt.v))),some (.val (.int l)),a]:=by
    show _ :: _ :: _ :: _ :: _ :: [a.map Sl.eF]=_;rw[dU P7];rfl
   have m2:gD (C.map Pt.v)=some (aT C):=jI (bX (by simp;omega));have m3:tM (.lst (R.map Pt.v).reverse)=some (aT R):=by
    show gD (R.map Pt.v).reverse.reverse=_;rw[List.reverse_reverse];exact jI (bX (by simp;omega))
   refine ai (b8 (v:=.tup [aT C,aT R]) (af:=[some (.val (aT c)),some (.val (.int p)),some (.val (.lst (R.map Pt.v).reverse)),some (.val (.lst (C.map Pt.v))),some (.val (.int l)),a]) ?_ ⟨C,R,⟨hC,by omega,e1,pC,hR,hJ.1,hJ.2.1⟩,rfl,rfl⟩);rw[sh];exact cT (av (pD (aq rfl) m2) (av (Sb (aq rfl) m3) aI)) eW
  cases R with
  |nil=>
   refine⟨false,_,xD (ay rfl (aq rfl) rfl),?_⟩;dsimp only;rw[Yv (by decide)];exact fin (by simp[bu,tot]at P6;omega) rfl
  |cons q R=>
   have P8:aH (run F w (n+2)) (.v 2) (gO c p (q :: R) C l a)=.ok true (gO c p (q :: R) C l a):=by
    unfold gO;rw[aaa,aay];exact ay rfl (aq rfl) So
   by_cases hq:dI q=true
   .cases q with
    |keep k=>cases hq
    |drop s=>cases hq
    |put s=>
     have ht1:aH (run F w (n+2)) Yt (gO c p (.put s :: R) C l a)=.ok true (gO c p (.put s :: R) C l a):=by
      refine g8 P8 ?_;by_cases h0:0<l
      .exact kJ (ay rfl (aK (aq rfl) (az rfl) (by rw[qx];simp;exact h0)) rfl)
      .refine fG (ay rfl (aK (b:=false) (aq rfl) (az rfl) (by rw[qx];simp;omega)) rfl) ?_;unfold gO;rw[aaa,aay];exact ay rfl (by (repeat (first|array_get_dec|exact jz))) rfl
     refine⟨true,_,ht1,?_⟩;dsimp only;rw[mD rfl];refine(P1 hs R C s l a hJ hC hl P6 hR pC (by omega) P7).mono λg fr ⟨hg,hx⟩=>?_;subst hg hkk;exact hx
   .have hq':dI q=false:=by simpa using hq
    by_cases h0:0<l
    .refine⟨true,_,g8 P8 (kJ (ay rfl (aK (aq rfl) (az rfl) (by rw[qx];simp;exact h0)) rfl)),?_⟩;dsimp only;rw[mD rfl];refine(P4 hs hp ht R C q l a hJ hq' h0 hC hl P6 hR pC (by omega) (by omega) P7).mono λg fr ⟨hg,hx⟩=>?_;subst hg hkk;exact hx
    .have P5:aH (run F w (n+2)) (.cmp .eq (.ix (.ix (.v 2) (.neg (.c (.int 1)))) (.c (.int 0))) (.c (.str [112,117,116]))) (gO c p (q :: R) C l a)=.ok false (gO c p (q :: R) C l a):=by
      unfold gO;rw[aaa,aay];cases q with
      |put s=>cases hq'
      |keep k=>exact ay rfl (by (repeat (first|array_get_dec|exact jz))) rfl
      |drop s=>exact ay rfl (by (repeat (first|array_get_dec|exact jz))) rfl
     refine⟨false,_,g8 P8 (fG (ay rfl (aK (b:=false) (aq rfl) (az rfl) (by rw[qx];simp;omega)) rfl) P5),?_⟩;dsimp only;rw[Yv (by decide)];refine fin (by omega) ?_;have q0:=hR q (.head _);rw[gM];cases q with
     |put s=>cases hq'
     |keep k=>cases k with
      |zero=>exact absurd q0 (by simp[Pt.n])
      |succ k=>simp[Pt.aG,xZ,xX]
     |drop s=>cases s with
      |nil=>exact absurd q0 (by simp[Pt.n])
      |cons x s=>simp[Pt.aG,xX]
 obtain⟨g,fr,e,A,B,hc,hg,ho⟩:=key;exact⟨A,B,bV hd rfl ⟨g,fr,e,hg,ho⟩,hc⟩
section
def LP(a b:List Pt):cI (a++b)=cI a+cI b:=by simp[cI,tot]
end
end
noncomputable def dD:List At->Bool
 |.p _ :: .d _ :: _=>false
 |_ :: a=>dD a
 |[]=>true
def sd(a:List At):dD (.k :: a)=dD a:=by rw[dD];intro c d r h;cases h
def IQ(c:Nat)(a:List At):dD (.d c :: a)=dD a:=by rw[dD];intro c d r h;cases h
def sf(c:Nat)(a:List At):dD (.p c :: .k :: a)=dD a:=by rw[dD,sd];intro c d r h1 h;cases h
def oH(c d:Nat)(a:List At):dD (.p c :: .p d :: a)=dD (.p d :: a):=by rw[dD];intro c d r h1 h;cases h
def BP(c:Nat):dD [.p c]=true:=by rw[dD];rfl;intro c d r h1 h;cases h
def qD{x:At}{a:List At}(h:dD (x :: a)=true):dD a=true:=by
 cases x with
 |k=>rw[sd]at h;exact h
 |d c=>rw[IQ]at h;exact h
 |p c=>
  cases a with
  |nil=>rfl
  |cons y a=>
   cases y with
   |k=>rw[sf]at h;rw[sd];exact h
   |d e=>simp[dD]at h
   |p e=>rw[oH]at h;exact h
def P9(n:Nat)(a:List At):dD (List.replicate n .k++a)=dD a:=by
 induction n with
 |zero=>rfl
 |succ n ih=>rw[xZ,aak,sd,ih]
def Qa(s:List Nat)(a:List At):dD (s.map .d++a)=dD a:=by
 induction s with
 |nil=>rfl
 |cons c s ih=>rw[aaa,aak,IQ,ih]
theorem Ae:∀(s:List Nat) (a:List At),Ed a=true->dD a=true->dD (s.map .p++a)=true
 |[],a,_,h=>h
 |[c],a,h1,h=>by
  cases a with
  |nil=>exact BP c
  |cons y a=>
   cases y with
   |k=>rw[sd]at h;show dD (.p c :: .k :: a)=true;rw[sf];exact h
   |d e=>simp[Ed]at h1
   |p e=>show dD (.p c :: .p e :: a)=true;rw[oH];exact h
 |c :: d :: s,a,h1,h=>by
  have:=Ae (d :: s) a h1 h;show dD (.p c :: .p d :: (s.map At.p++a))=true;rw[oH];exact this
theorem pN:∀{A:List Pt},eO A=true->dD (aG A)=true
 |[],_=>rfl
 |q :: R,h=>by
  obtain⟨t1,t2,t3⟩:=dZ h;have ih:=pN t1;rw[gM];cases q with
  |keep n=>rw[Pt.aG,P9];exact ih
  |drop s=>rw[Pt.aG,Qa];exact ih
  |put s=>
   rw[Pt.aG];refine Ae s _ ?_ ih;cases R with
   |nil=>rfl
   |cons r R=>
    have:=t3 r (by simp);rw[gM];cases r with
    |keep n=>
     cases n with
     |zero=>have:=fX t1 (.keep 0) (.head _);simp[Pt.n]at this
     |succ n=>simp[Pt.aG,xZ,Ed]
    |drop s2=>simp[dW,Pt.word]at this
    |put s2=>simp[dW,Pt.word]at this
noncomputable def jX(A:List Pt):Nat:=match A.getLast? with
 |some (.put _)=>cI A.dropLast
 |_=>cI A
noncomputable def sj(m6:Nat):S:=.set 3 (.ix (.cl m6 (.cons (.v 0) (.cons (.v 1) .nil))) (.c (.int 0)))
noncomputable def sq(fZ:Nat):S:=.iff (.an (.cmp .eq (.v 2) (.c (.str [97,104,101,97,100]))) (.an (.v 3) (.cmp .eq (.ix (.ix (.v 3) (.neg (.c (.int 1)))) (.c (.int 0))) (.c (.str [112,117,116]))))) (.cons (.ret (.cl fZ (.cons (.sl (.v 3) .no (.yes (.neg (.c (.int 1))))) .nil))) .nil) .nil
noncomputable def lz(fZ:Nat):S:=.ret (.cl fZ (.cons (.v 3) .nil))
noncomputable def jP(m6:Nat)(fZ:Nat):Fn:=⟨3,4,(.cons (sj m6) (.cons (sq fZ) (.cons (lz fZ) .nil)))⟩
section
variable{F:List Fn}{w n aC aE aO aW bO aR aX dX i:Nat}
def Qc{α:Type}(m:List α)(x:α):cut (m++[x]) none (some (-1))=m:=by
 have e:Ev.aP (m++[x]).length (m++[x]).length (some (-1))=m.length:=by
  unfold Ev.aP;dsimp only;rw[mD (by decide)];simp;omega
 unfold Ev.cut;rw[e];simp[Ev.aP]
def sy(hst:F[aE]?=some cu)(hf:F[aO]?=some (eY aE))(hs:F[aC]?=some cQ)(hp:F[aR]?=some cV)(ht:F[aX]?=some (ez aR aC))(hb:F[aW]?=some (fj aC))(ha:F[bO]?=some (j7 aC))(hc:F[dX]?=some (j4 aW aO aC aX))
  (hd:F[i]?=some (jP dX bO)) (hw:5000<w) (c:List Pt) (p:Nat) (h1:c.length<=900) (h2:tot c<=900) (h:p<=bu c) :
  ∃A B,Cut c p A B/\run F w (n+4) i [.val (aT c),.val (.int p),.val (.str [97,104,101,97,100])]=some (.int (jX A),[]):=by
 obtain⟨A,B,r,C⟩:=pM (F:=F) (w:=w) (n:=n) hst hf hs hp ht hb hc hw c p (by omega) (by omega) h;refine⟨A,B,C,?_⟩;have q1:=λfr=>call2 (fr:=fr) r;have b1:=C.GU;have b2:=C.lA;have q2:=λ(x:List Pt) (l1:x.length<=900) (l2:tot x<=900) fr=>dS (fr:=fr) (oG (F:=F) (w:=w) (n:=n+1) hs ha x (by omega) (by omega));refine bV hd rfl ?_;refine ai (aY (b7 (bW (aF rfl (aq rfl) (aF rfl (aq rfl) aV)) (q1 _)) (az rfl) rfl) rfl rfl ?_);have fin:jX A=cI A->Wp (exs (run F w (n+3)) w (.cons (lz bO) .nil) [some (.val (aT c)),some (.val (.int p)),some (.val (.str [97,104,101,97,100])),some (.val (aT A))]) λg fr=>g=.ret (.int (jX A))/\outs 3 fr=[]:=λe=>by
  rw[e];exact ai (b8 (bW (aF rfl (aq rfl) aV) (q2 A (by omega) (by omega) _)) ⟨rfl,rfl⟩)
 rcases abU A with rfl|⟨X,q,hX⟩
 .exact ai (aN (b:=false) (g8 (ay rfl (aK (aq rfl) (az rfl) cC) rfl) (xD (ay rfl (aq rfl) rfl))) (λh=>absurd h (by decide)) λ_=>aD (fin rfl))
 .rw[abV]at hX;subst hX;have il:cY (aT (X++[q])) (.int (-1))=some q.v:=by
   show bE ((X++[q]).map Pt.v) (-1)=_;rw[oz,aaq];simp
  have tr:truthy (aT (X++[q]))=true:=by show(!((X++[q]).map Pt.v).isEmpty)=true;simp
  have sl:iZ (aT (X++[q])) none (some (-1))=some (aT X):=by
   show some (V.tup (cut ((X++[q]).map Pt.v) none (some (-1))))=_;rw[aaq];exact aab (λz=>some (V.tup z)) (Qc (X.map Pt.v) q.v)
  have tX:tot X<=900:=by rw[j8]at b1;omega
  have lX:X.length<=900:=by simp at b2;omega
  have ng:ev (run F w (n+3)) true (.neg (.c (.int 1)))=λfr=>.ok (.int (-1)) fr:=by funext fr;exact gS (az rfl)
  cases q with
  |put s=>
   have e:jX (X++[.put s])=cI X:=by simp[jX]
   refine ai (aN (b:=true) (g8 (ay rfl (aK (aq rfl) (az rfl) cC) rfl) (g8 (ay rfl (aq rfl) tr) (ay rfl (aK (b7 (b7 (aq rfl) (gS (az rfl)) il) (az rfl) rfl) (az rfl) cC) rfl))) (λ_=>?_) λh=>absurd h (by decide));rw[e];exact ai (b8 (bW (aF rfl (Gm (aq rfl) Iz (rQ (gS (az rfl))) sl) aV) (q2 X lX tX _)) ⟨rfl,rfl⟩)
  |keep k=>
   have e:jX (X++[.keep k])=cI (X++[.keep k]):=by simp[jX]
   exact ai (aN (b:=false) (g8 (ay rfl (aK (aq rfl) (az rfl) cC) rfl) (g8 (ay rfl (aq rfl) tr) (ay rfl (aK (b7 (b7 (aq rfl) (gS (az rfl)) il) (az rfl) rfl) (az rfl) cC) rfl))) (λh=>absurd h (by decide)) λ_=>aD (fin e))
  |drop s=>
   have e:jX (X++[.drop s])=cI (X++[.drop s]):=by simp[jX]
   exact ai (aN (b:=false) (g8 (ay rfl (aK (aq rfl) (az rfl) cC) rfl) (g8 (ay rfl (aq rfl) tr) (ay rfl (aK (b7 (b7 (aq rfl) (gS (az rfl)) il) (az rfl) rfl) (az rfl) cC) rfl))) (λh=>absurd h (by decide)) λ_=>aD (fin e))
end
section
variable{F:List Fn}{aC aR aX Qd:Nat}
def IS{P:aL}{g j:Nat}{fr:Fr}{v:V}{l l':List V}(e:fr[j]?=some (some (.own l)))(h:P g [.bor l]=some (v,[l'])):cS P g [.inl j] fr=.ok v (fr.set j (some (.own l'))):=by
 have e1:lent fr j=some (.bor l):=by rw[tS,e];rfl
 simp[cS,bK,args,e1,h,back,e,Sl.with]
variable(hs:F[aC]?=some cQ)(hp:F[aR]?=some cV)(ht:F[aX]?=some (ez aR aC))(Yu:F[Qd]?=some Q5)
include hs hp ht Yu
end
end Pv
namespace Pv
end Pv
namespace Pv
open Ev (D bw bq TY BI ME T E Es Eo It S Ss Fn big deep rep cut bE)
theorem qF:∀{c:List Pt}{y:List Nat},y∈asks c->y=[]\/∃x,y=[x]
 |[],y,h=>by simp[asks]at h
 |p :: c,y,h=>by
  have h:y∈p.asks++asks c:=h;rcases List.mem_append.mp h with h|h
  .cases p with
   |keep n=>exact .inl (acu h)
   |put s=>simp[Pt.asks]at h
   |drop s=>obtain⟨x,_,rfl⟩:=List.mem_map.mp h;exact .inr ⟨x,rfl⟩
  .exact qF h
end Pv
namespace Pv
open Ev (D bw bq TY BI ME T E Es Eo It S Ss Fn big deep b2i rep bT cL bE aP cut bZ cJ slots)
noncomputable def mk(x:List Nat)(l:List Pt)(k:Nat)(f:List Nat):Option (List Nat):=if k<=x.length/\jy l (x.drop k)=true then some (f++vv l (x.drop k))else none
end Pv
namespace Pv
open Ev (D bw bq TY BI ME T E Es Eo It S Ss Fn)
end Pv
namespace Pv
open Ev (D bw bq TY BI ME T E Es Eo It S Ss Fn big deep b2i rep bT cL bE aP cut bZ cJ slots)
end Pv
namespace Pv
noncomputable def bL:List At->List Nat->List (List Nat)
 |[],l=>[l]
 |.p c :: a,l=>bL a (l++[c])
 |.d _ :: a,l=>[] :: bL a l
 |.k :: a,l=>l :: bL a []
noncomputable def ofT:Nat->List (List Nat)->List (List Nat)->List Tq
 |_,[],_=>[]
 |i,n :: ps,[]=>n.map .sg++ofT (i+1) ps []
 |i,n :: ps,k :: as=>n.map .sg++((if k=[]then [.at i]else [])++ofT (i+1) ps as)
theorem vA:∀(a:List At) (i:Nat) (l:List Nat),ofT i (bL a l) (aA a)=l.map .sg++tA i a
 |[],i,l=>by simp[bL,aA,ofT,tA]
 |.p c :: a,i,l=>by rw[bL,aA,tA,vA a i (l++[c])];simp
 |.d c :: a,i,l=>by simp only[bL,aA,tA,ofT];rw[vA a (i+1) l];simp
 |.k :: a,i,l=>by simp only[bL,aA,tA,ofT,aan];rw[vA a (i+1) []];simp
noncomputable def Af:List (List Nat)->List Tq->List (List Nat)
 |[],T=>[T.filterMap λq=>match q with|.sg c=>some c|.at _=>none]
 |k :: as,T=>if k=[]then (T.takeWhile λq=>match q with|.sg _=>true|.at _=>false).filterMap (λq=>match q with|.sg c=>some c|.at _=>none) :: Af as ((T.dropWhile λq=>match q with|.sg _=>true|.at _=>false).tail)else [] :: Af as T
def Ej(l:List Nat):(l.map Tq.sg).filterMap (λq=>match q with|.sg c=>some c|.at _=>none)=l:=by
 induction l with
 |nil=>rfl
 |cons c l ih=>simp[ih]
def IT(l:List Nat)(i:Nat)(T:List Tq):(l.map Tq.sg++.at i :: T).takeWhile (λq=>match q with|.sg _=>true|.at _=>false)=l.map Tq.sg/\(l.map Tq.sg++.at i :: T).dropWhile (λq=>match q with|.sg _=>true|.at _=>false)=.at i :: T:=by
 induction l with
 |nil=>simp[List.takeWhile,List.dropWhile]
 |cons c l ih=>simpa[List.takeWhile,List.dropWhile]using ih
theorem x6:∀(a:List At) (i:Nat) (l:List Nat),bL a l=Af (aA a) (l.map .sg++tA i a)
 |[],i,l=>by simp only[bL,aA,tA,Af,aae];rw[Ej]
 |.p c :: a,i,l=>by rw[bL,aA,tA,x6 a i (l++[c])];simp
 |.d c :: a,i,l=>by
  simp only[bL,aA,tA,Af];rw[Yv (by simp),x6 a (i+1) l]
 |.k :: a,i,l=>by
  simp only[bL,aA,tA,Af,aan];rw[(IT l i _).1,(IT l i _).2,Ej,x6 a (i+1) []];simp
noncomputable def b5(c:List Pt):List (List Nat):=bL (aG c) []
def qG(c:List Pt):b5 (bF c)=b5 c:=by
 unfold b5;rw[x6 _ 0,x6 (aG c) 0,<-eK,<-eK,<-m5,<-m5,iS,ly]
theorem mF:∀(a:List At) (l:List Nat),(bL a l).length=(aA a).length+1
 |[],l=>rfl
 |.p c :: a,l=>by rw[bL,aA,mF a]
 |.d c :: a,l=>by simp[bL,aA,mF a]
 |.k :: a,l=>by simp[bL,aA,mF a]
def Ag(c:List Pt):told 0 c=ofT 0 (b5 c) (asks c):=by
 rw[m5,eK,b5,vA];rfl
theorem jm:∀(x b:List At) (l:List Nat),∃I e,bL x l=I++[e]/\bL (x++b) l=I++bL b e
 |[],b,l=>⟨[],l,rfl,rfl⟩
 |.p c :: x,b,l=>jm x b (l++[c])
 |.d c :: x,b,l=>by obtain⟨I,e,h1,h2⟩:=jm x b l;exact⟨[] :: I,e,by simp[bL,h1],by simp[bL,h2]⟩
 |.k :: x,b,l=>by obtain⟨I,e,h1,h2⟩:=jm x b [];exact⟨l :: I,e,by simp[bL,h1],by simp[bL,h2]⟩
def IU:∀(b:List At) (e:List Nat),xX b=true->(Ed b=false->e=[])->bL b e=e :: (bL b []).tail
 |[],e,_,_=>rfl
 |.k :: b,e,_,_=>rfl
 |.d c :: b,e,_,h=>by obtain rfl:=h rfl;rfl
 |.p c :: b,e,h,_=>by cases h
def Qe{x b:List At}(h:xX b=true)(h2:Ed b=false->∀I e,bL x []=I++[e]->e=[]):bL (x++b) []=bL x []++(bL b []).tail/\bL b []=[] :: (bL b []).tail:=by
 obtain⟨I,e,h3,h4⟩:=jm x b [];refine⟨?_,IU b [] h λ_=>rfl⟩;rw[h4,h3,IU b e h λz=>h2 z I e h3];simp
end Pv
namespace Pv
open Ev (D bw bq TY BI ME T E Es Eo It S Ss Fn big deep b2i rep bT cL bE aP cut bZ cJ slots)
noncomputable def GZ:Ss:=(.cons (.iff (.cmp .eq (.v 4) (.c (.str [112,117,116]))) (.cons (.set 3 (.bin .add (.v 3) (.v 5))) .nil) (.cons (.iff (.cmp .eq (.v 4) (.c (.str [100,114,111,112]))) (.cons (.set 1 (.bin .add (.v 1) (.gU (.seq (.v 5))))) (.cons (.set 2 (.fh (.v 2) (.bin .mul (.lst (.cons (.c (.str [])) .nil)) (.bi .len (.cons (.v 5) .nil))))) .nil)) (.cons (.exp (.me .kq (.v 2) (.cons (.bin .add (.ix (.v 2) (.neg (.c (.int 1)))) (.v 3)) (.cons (.neg (.c (.int 1))) .nil)))) (.cons (.set 3 (.c (.str []))) (.cons (.set 6 (.iX (.cmp .eq (.v 4) (.c (.str [107,101,101,112]))) (.v 5) (.c (.int 0)))) (.cons (.set 1 (.bin .add (.v 1) (.bin .mul (.lst (.cons (.c (.str [])) .nil)) (.v 6)))) (.cons (.set 2 (.fh (.v 2) (.bin .mul (.lst (.cons (.c (.str [])) .nil)) (.v 6)))) .nil)))))) .nil)) .nil)
noncomputable def Ek:Fn:=⟨1,7,(.cons (.set 1 (.lst .nil)) (.cons (.set 2 (.lst (.cons (.c (.str [])) .nil))) (.cons (.set 3 (.c (.str []))) (.cons (.for (.many [4,5]) (.seq (.bin .add (.v 0) (.tup (.cons (.tup (.cons (.c (.str [101,110,100])) (.cons (.c (.str [])) .nil))) .nil)))) GZ) (.cons (.ret (.tup (.cons (.v 1) (.cons (.v 2) .nil)))) .nil)))))⟩
theorem vC:∀(s e:List Nat),bL (s.map .p) e=[e++s]
 |[],e=>by simp[bL]
 |c :: s,e=>by rw[aaa,bL,vC s];simp
theorem sA:∀(s e:List Nat),bL (s.map .d) e=List.replicate s.length []++[e]
 |[],e=>by simp[bL]
 |c :: s,e=>by simp[bL,sA s,xZ]
theorem vD:∀(k:Nat) (e:List Nat),bL (List.replicate (k+1) .k) e=e :: (List.replicate k []++[[]])
 |0,e=>by simp[bL]
 |k+1,e=>by rw[xZ,bL,vD k];simp[xZ]
def m7{x b:List At}{I:List (List Nat)}{e:List Nat}(h:bL x []=I++[e]):bL (x++b) []=I++bL b e:=by
 obtain⟨I',e',h1,h2⟩:=jm x b [];rw[h]at h1;obtain⟨e1,e2⟩:=abq h1 rfl;cases e2;subst e1;exact h2
theorem x8:∀(a:List At) (l x:List Nat),x∈bL a l->x.length<=l.length+a.length
 |[],l,x,h=>by simp[bL]at h;subst h;simp
 |.p c :: a,l,x,h=>by have:=x8 a (l++[c]) x h;simp at this ⊢;omega
 |.d c :: a,l,x,h=>by
  simp only[bL,aaY]at h;rcases h with rfl|h
  .simp
  .have:=x8 a l x h;simp;omega
 |.k :: a,l,x,h=>by
  simp only[bL,aaY]at h;rcases h with rfl|h
  .simp
  .have:=x8 a [] x h;simp at this ⊢;omega
noncomputable def gE:Option Pt->V
 |some p=>p.v
 |none=>.tup [.str [101,110,100],.str []]
def Ah{i:Nat}{fr:Fr}{l:List V}{x d:V}:gK .kq i [d,.int (-1)] fr (some (some (.own (l++[x]))))=.ok .aU (fr.set i (some (.own (l++[d])))):=by
 have h:cL (l++[x]).length (-1)=some l.length:=by
  unfold cL;rw[Yv (by decide),mD (by simp;omega)];simp;omega
 have e:(l++[x]).set l.length d=l++[d]:=by simp
 simp only[gK,kC,h,acy,e]
def BQ(k:Nat)(h:k<=1000):Pv.bD .mul (.lst [.str []]) (.int (k:Int))=some (.lst ((List.replicate k ([]:List Nat)).map V.str)):=by
 rw[xr (by omega) (by omega) (by simp) (by simp[rep];omega),Lx];simp
section
variable{F:List Fn}{w n i:Nat}
noncomputable def gF(c:List Pt)(o:Option Sl)(P:List (List Nat))(e:List Nat)(x y z:Option Sl):Fr:=[some (.val (aT c)),o,some (.own (P.map V.str)),some (.val (.str e)),x,y,z]
def x9(hg:F[i]?=some Ek)(c:List Pt)(hc:∀p∈c,0<p.n)(h1:tot c<=400):run F w (n+1) i [.val (aT c)]=some (.tup [.lst (bN c),.lst ((b5 c).map V.str)],[]):=by
 have lc:=fY hc;refine bV hg rfl ?_;refine ai (eX (l:=[]) (fQ aI mW) rfl rfl ?_);refine ai (eX (l:=[.str []]) (fQ (av (az rfl) aI) kY) rfl rfl ?_);refine ai (aY (az rfl) rfl rfl ?_);have ad:Pv.bD .add (aT c) (.tup [.tup [.str [101,110,100],.str []]])=some (.tup ((c.map some++[none]).map gE)):=by
  show Pv.bD .add (.tup (c.map Pt.v)) (.tup [_])=_;rw[xq (by simp;omega)];simp[gE,Function.comp_def]
 refine ai (jA (vs:=(c.map some++[none]).map gE) (af:=gF c (some (.own [])) [[]] [] none none none) (jk (bg (aq rfl) (cT (av (cT (av (az rfl) (av (az rfl) aI)) eW) aI) rM) ad) rfl) ?_);refine fF (e:=gE) (λp l fr=>∃o x y z,vo x/\vo y/\vo z/\((∃q r,p=q.map some/\l=r.map some++[none]/\q++r=c/\lv o (bN q)/\∃I e,bL (aG q) []=I++[e]/\fr=gF c o (I++[[]]) e x y z)\/(l=[]/\lv o (bN c)/\fr=gF c o (b5 c) [] x y z))) (λp a l fr ⟨o,x,y,z,hx,hy,hz,hI⟩=>?_) (λp fr ⟨o,x,y,z,hx,hy,hz,hI⟩=>?_) _ [] _ ⟨some (.own []),none,none,none,.none,.none,.none,.inl ⟨[],c,rfl,rfl,rfl,.own,[],[],rfl,rfl⟩⟩
 .rcases hI with ⟨q,r,rfl,hl,hq,ho,I,e,hg,rfl⟩|⟨hl,_⟩
  .have IV:tot q+tot r=tot c:=by rw[<-hq,j8]
   have gl:I.length=(bN q).length:=by
    have:=mF (aG q) [];rw[hg]at this;simp at this;simp[bN,eK];omega
   have al:(bN q).length<=tot q:=by rw[bN,aag];exact j9 q
   have le:e.length<=tot q:=by
    have:=x8 (aG q) [] e (by rw[hg];simp);rw[fW]at this;simpa using this
   cases r with
   |nil=>
    cases hl;rw[aae]at hq;subst hq;have aS:Pv.bD .add (.str []) (.str e)=some (.str e):=kH (a:=[]) (b:=e) (by simp;omega);have il:cY (.lst ((I++[[]]).map V.str)) (.int (-1))=some (.str []):=by rw[gR,oz];simp
    have ml:=BQ 0 (by omega);have st:gK .kq 2 [.str e,.int (-1)] (gF q o (I++[[]]) e (some (.val (.str [101,110,100]))) (some (.val (.str []))) z) (some (some (.own ((I++[[]]).map V.str))))=.ok .aU (gF q o (I++[e]) e (some (.val (.str [101,110,100]))) (some (.val (.str []))) z):=by
     rw[aaq];refine(Ah (l:=I.map V.str) (x:=.str [])).trans ?_;rw[show I.map V.str++[V.str e]=(I++[e]).map V.str by simp];rfl
    refine dN (af:=gF q o (I++[[]]) e (some (.val (.str [101,110,100]))) (some (.val (.str []))) z) (gq rfl hx rfl hy) ?_;refine ai (aN (b:=false) (ay rfl (aK (aq rfl) (az rfl) cC) rfl) (λh=>absurd h (by decide)) λ_=>?_);refine ai (aN (b:=false) (ay rfl (aK (aq rfl) (az rfl) cC) rfl) (λh=>absurd h (by decide)) λ_=>?_);refine ai (fR (lq rfl rfl (av (bg (b7 (aq rfl) (gS (az rfl)) il) (aq rfl) aS) (av (gS (az rfl)) aI)) st) ?_);refine ai (aY (ao:=gF q o (I++[e]) [] (some (.val (.str [101,110,100]))) (some (.val (.str []))) z) (az rfl) rfl rfl ?_);refine ai (aY (v:=.int 0) (ao:=gF q o (I++[e]) [] (some (.val (.str [101,110,100]))) (some (.val (.str []))) (some (.val (.int 0)))) (pq (b:=false) (ay rfl (aK (aq rfl) (az rfl) cC) rfl) (λh=>absurd h (by decide)) λ_=>az rfl) rfl (fV rfl hz) ?_);have a1:Pv.bD .add (.lst (bN q)) (.lst ((List.replicate 0 ([]:List Nat)).map V.str))=some (.lst (bN q)):=(qv (x:=bN q) (y:=[]) (by simp;omega)).trans (by simp);refine ai (aY (ao:=gF q (some (.val (.lst (bN q)))) (I++[e]) [] (some (.val (.str [101,110,100]))) (some (.val (.str []))) (some (.val (.int 0)))) (bg (GI rfl rfl ho) (bg (fQ (av (az rfl) aI) kY) (aq rfl) ml) a1) rfl (xJ rfl ho) ?_);refine ai (eX (l:=((I++[e]).map V.str)++[]) (ao:=gF q (some (.val (.lst (bN q)))) (I++[e]) [] (some (.val (.str [101,110,100]))) (some (.val (.str []))) (some (.val (.int 0)))) (xC (aq rfl) (bg (fQ (av (az rfl) aI) kY) (aq rfl) ml) (bX (by simp;omega))) rfl (by rw[aae];rfl) (aD (aD (aD ?_))));rw[dR];exact⟨_,_,_,_,.val,.val,.val,.inr ⟨rfl,.val,by unfold b5;rw[hg]⟩⟩
   |cons a' r=>
    cases hl;have hq':(q++[a'])++r=c:=by simpa using hq
    have ha0:0<a'.n:=hc a' (by rw[<-hq];simp);rw[dm]at IV;have el:aG (q++[a'])=aG q++a'.aG:=by rw[gT];simp[aG]
    have hA:bN (q++[a'])=bN q++a'.asks.map V.str:=by simp[bN,asks]
    have fin:∀{o' x' y' z' I' e'},lv o' (bN (q++[a']))->vo x'->vo y'->vo z'->bL (aG (q++[a'])) []=I'++[e']->∃o x y z,vo x/\vo y/\vo z/\((∃q1 r1,q.map some++[some a']=q1.map some/\r.map some++[none]=r1.map some++[none]/\q1++r1=c/\lv o (bN q1)/\∃I e,bL (aG q1) []=I++[e]/\gF c o' (I'++[[]]) e' x' y' z'=gF c o (I++[[]]) e x y z)\/(r.map some++[none]=[]/\lv o (bN c)/\gF c o' (I'++[[]]) e' x' y' z'=gF c o (b5 c) [] x y z)):=λh1 h2 h3 h4 h5=>⟨_,_,_,_,h2,h3,h4,.inl ⟨q++[a'],r,by simp,rfl,hq',h1,_,_,h5,rfl⟩⟩
    cases a' with
    |put s=>
     simp only[Pt.n]at IV ha0;have aS:=kH (a:=e) (b:=s) (by omega);refine dN (af:=gF c o (I++[[]]) e (some (.val (.str iE))) (some (.val (.str s))) z) (gq rfl hx rfl hy) ?_;refine ai (aN (b:=true) (ay rfl (aK (aq rfl) (az rfl) cC) rfl) (λ_=>?_) λh=>absurd h (by decide));refine ai (aY (ao:=gF c o (I++[[]]) (e++s) (some (.val (.str iE))) (some (.val (.str s))) z) (bg (aq rfl) (aq rfl) aS) rfl rfl (aD (aD ?_)));rw[dR];refine fin ?_ .val .val hz ?_
     .rw[hA];simpa[Pt.asks]using ho
     .rw[el,m7 hg];simp only[Pt.aG];rw[vC]
    |drop s=>
     simp only[Pt.n]at IV ha0;have ls:dz .len [.str s]=some (.int (s.length:Nat)):=abe (by omega);have ml:=BQ s.length (by omega);have mk:=fE (x:=s.map λc=>V.str [c]) (bX (by simp;omega));have a1:=qv (x:=bN q) (y:=s.map λc=>V.str [c]) (by simp;omega);have hd:bN (q++[.drop s])=bN q++s.map λc=>V.str [c]:=by rw[hA];simp[Pt.asks]
     rw[<-hd]at a1;refine dN (af:=gF c o (I++[[]]) e (some (.val (.str fS))) (some (.val (.str s))) z) (gq rfl hx rfl hy) ?_;refine ai (aN (b:=false) (ay rfl (aK (aq rfl) (az rfl) cC) rfl) (λh=>absurd h (by decide)) λ_=>?_);refine ai (aN (b:=true) (ay rfl (aK (aq rfl) (az rfl) cC) rfl) (λ_=>?_) λh=>absurd h (by decide));refine ai (aY (ao:=gF c (some (.val (.lst (bN (q++[.drop s]))))) (I++[[]]) e (some (.val (.str fS))) (some (.val (.str s))) z) (bg (GI rfl rfl ho) (BA (jk (iP rfl) rfl) mk) a1) rfl (xJ rfl ho) ?_);have ec:(I++[[]]).map V.str++(List.replicate s.length ([]:List Nat)).map V.str=((I++List.replicate s.length [])++[[]]).map V.str:=by
      rw[<-aaq,aar,aar]
      congr 2
      rw[<-ab4,xZ];rfl
     refine ai (eX (l:=(I++[[]]).map V.str++(List.replicate s.length ([]:List Nat)).map V.str) (ao:=gF c (some (.val (.lst (bN (q++[.drop s]))))) ((I++List.replicate s.length [])++[[]]) e (some (.val (.str fS))) (some (.val (.str s))) z) (xC (aq rfl) (bg (fQ (av (az rfl) aI) kY) (eS (av (aq rfl) aI) ls) ml) (bX (by simp;omega))) rfl (by rw[ec];rfl) (aD (aD (aD ?_))));rw[dR];refine fin .val .val .val hz ?_;rw[el,m7 hg];simp only[Pt.aG];rw[sA,aar]
    |keep k=>
     simp only[Pt.n]at IV ha0;have aS:Pv.bD .add (.str []) (.str e)=some (.str e):=kH (a:=[]) (b:=e) (by simp;omega);have il:cY (.lst ((I++[[]]).map V.str)) (.int (-1))=some (.str []):=by rw[gR,oz];simp
     have ml:=BQ k (by omega);have st:gK .kq 2 [.str e,.int (-1)] (gF c o (I++[[]]) e (some (.val (.str bP))) (some (.val (.int k))) z) (some (some (.own ((I++[[]]).map V.str))))=.ok .aU (gF c o (I++[e]) e (some (.val (.str bP))) (some (.val (.int k))) z):=by
      rw[aaq];refine(Ah (l:=I.map V.str) (x:=.str [])).trans ?_;rw[show I.map V.str++[V.str e]=(I++[e]).map V.str by simp];rfl
     refine dN (af:=gF c o (I++[[]]) e (some (.val (.str bP))) (some (.val (.int k))) z) (gq rfl hx rfl hy) ?_;refine ai (aN (b:=false) (ay rfl (aK (aq rfl) (az rfl) cC) rfl) (λh=>absurd h (by decide)) λ_=>?_);refine ai (aN (b:=false) (ay rfl (aK (aq rfl) (az rfl) cC) rfl) (λh=>absurd h (by decide)) λ_=>?_);refine ai (fR (lq rfl rfl (av (bg (b7 (aq rfl) (gS (az rfl)) il) (aq rfl) aS) (av (gS (az rfl)) aI)) st) ?_);refine ai (aY (ao:=gF c o (I++[e]) [] (some (.val (.str bP))) (some (.val (.int k))) z) (az rfl) rfl rfl ?_);refine ai (aY (v:=.int k) (ao:=gF c o (I++[e]) [] (some (.val (.str bP))) (some (.val (.int k))) (some (.val (.int k)))) (pq (b:=true) (ay rfl (aK (aq rfl) (az rfl) cC) rfl) (λ_=>aq rfl) λh=>absurd h (by decide)) rfl (fV rfl hz) ?_);have a1:=qv (x:=bN q) (y:=(List.replicate k ([]:List Nat)).map V.str) (by simp;omega);have hd:bN (q++[.keep k])=bN q++(List.replicate k ([]:List Nat)).map V.str:=by rw[hA];simp[Pt.asks]
     rw[<-hd]at a1;refine ai (aY (ao:=gF c (some (.val (.lst (bN (q++[.keep k]))))) (I++[e]) [] (some (.val (.str bP))) (some (.val (.int k))) (some (.val (.int k)))) (bg (GI rfl rfl ho) (bg (fQ (av (az rfl) aI) kY) (aq rfl) ml) a1) rfl (xJ rfl ho) ?_);obtain⟨k',rfl⟩:∃k',k=k'+1:=⟨k - 1,by omega⟩
     have ec:(I++[e]).map V.str++(List.replicate (k'+1) ([]:List Nat)).map V.str=((I++e :: List.replicate k' [])++[[]]).map V.str:=by
      rw[<-aaq,ab4];simp
     refine ai (eX (l:=(I++[e]).map V.str++(List.replicate (k'+1) ([]:List Nat)).map V.str) (ao:=gF c (some (.val (.lst (bN (q++[.keep (k'+1)]))))) ((I++e :: List.replicate k' [])++[[]]) [] (some (.val (.str bP))) (some (.val (.int (k'+1:Nat)))) (some (.val (.int (k'+1:Nat))))) (xC (aq rfl) (bg (fQ (av (az rfl) aI) kY) (aq rfl) ml) (bX (by simp;omega))) rfl (by rw[ec];rfl) (aD (aD (aD ?_))));rw[dR];refine fin .val .val .val .val ?_;rw[el,m7 hg];simp only[Pt.aG];rw[vD];simp
  .cases hl
 .rcases hI with ⟨q,r,_,hl,_⟩|⟨_,ho,rfl⟩
  .cases r<;>cases hl
  .have sh:gj (gF c o (b5 c) [] x y z)=[some (.val (aT c)),some (.val (.lst (bN c))),some (.val (.lst ((b5 c).map V.str))),some (.val (.str [])),x,y,z]:=by
    show [_,o.map Sl.eF,_,_,x.map Sl.eF,y.map Sl.eF,z.map Sl.eF]=_;rw[Lv ho,dU hx,dU hy,dU hz];rfl
   refine ai (b8 (af:=[some (.val (aT c)),some (.val (.lst (bN c))),some (.val (.lst ((b5 c).map V.str))),some (.val (.str [])),x,y,z]) ?_ ⟨rfl,rfl⟩);rw[sh];exact cT (av (aq rfl) (av (aq rfl) aI)) eW
noncomputable def en:Nat->List (List Nat)->List (Nat×List Nat)
 |_,[]=>[]
 |k,p :: ps=>(k,p) :: en (k+1) ps
noncomputable def Qf(p:Nat×List Nat):V:=.tup [.int (p.1:Int),.str p.2]
theorem yc:∀(P:List (List Nat)) (k:Nat),cD (k:Int) (P.map V.str)=(en k P).map Qf
 |[],k=>rfl
 |p :: P,k=>by
  simp only[aaa,cD,en];rw[show((k:Int)+1)=((k+1:Nat):Int)by omega,yc P];rfl
end
end Pv
namespace Pv
open Ev (D bw bq TY BI ME T E Es Eo It S Ss Fn)
def Su(a b:Nat):∀y:List At,dD (.p a :: y)=dD (.p b :: y)
 |[]=>by rw[BP,BP]
 |.k :: y=>by rw[sf,sf]
 |.d c :: y=>by simp[dD]
 |.p c :: y=>by rw[oH,oH]
theorem kg{c:Nat}{b:List At}:∀(x:List At) (l:List Nat) (I:List (List Nat)) (e:List Nat),(l≠[]->dD (.p 0 :: (x++.d c :: b))=true)->dD (x++.d c :: b)=true->bL x l=I++[e]->e=[]
 |[],l,I,e,h,_,h2=>by
  obtain⟨rfl,h3⟩:=abq (s₁:=[]) (t₁:=[l]) h2 rfl;cases h3;by_cases hl:l=[]
  .exact hl
  .have:=h hl;simp[dD]at this
 |.p a :: x,l,I,e,h,h1,h2=>by
  refine kg x (l++[a]) I e (λ_=>?_) (qD h1) h2;rw[Su 0 a];exact h1
 |.d a :: x,l,I,e,h,h1,h2=>by
  have hl:l=[]:=by
   by_cases hl:l=[]
   .exact hl
   .have:=h hl;simp[dD]at this
  subst hl;obtain⟨I',e',h3,_⟩:=jm x [] [];simp only[bL]at h2;rw[h3,<-aak]at h2;obtain⟨_,h4⟩:=abq h2 rfl;cases h4;exact kg x [] I' _ (λz=>absurd rfl z) (qD h1) h3
 |.k :: x,l,I,e,h,h1,h2=>by
  obtain⟨I',e',h3,_⟩:=jm x [] [];simp only[bL]at h2;rw[h3,<-aak]at h2;obtain⟨_,h4⟩:=abq h2 rfl;cases h4;exact kg x [] I' _ (λz=>absurd rfl z) (qD h1) h3
def Ai{c A B:List Pt}{p:Nat}(hn:dD (aG (bF c))=true)(h:Cut c p A B):b5 A=(b5 c).take (p+1)/\b5 B=[] :: (b5 c).drop (p+1)/\asks A=(asks c).take p/\asks B=(asks c).drop p:=by
 have e1:asks A++asks B=asks c:=by rw[<-iS c,eK,eK,eK,<-mC,h.at_]
 have lA:(asks A).length=p:=by rw[eG,h.bA]
 rw[<-h.at_]at hn;obtain⟨g1,g2⟩:=Qe (x:=aG A) h.hd λz I e hI=>by
  cases hb:aG B with
  |nil=>rw[hb]at z;cases z
  |cons y b=>
   rw[hb]at z hn;cases y with
   |k=>cases z
   |p c=>cases z
   |d c=>exact kg (aG A) [] I e (λz=>absurd rfl z) hn hI
 have g3:b5 c=b5 A++(b5 B).tail:=by rw[<-qG c];unfold b5;rw[<-h.at_];exact g1
 have lG:(b5 A).length=p+1:=by unfold b5;rw[mF,<-eK,lA]
 refine⟨?_,?_,?_,?_⟩
 .rw[g3,List.take_left' lG]
 .rw[g3,List.drop_left' lG];exact g2
 .rw[<-e1,List.take_left' lA]
 .rw[<-e1,List.drop_left' lA]
theorem IW:∀(s:Nat) (a:List At),bL (List.replicate s .k++a) []=List.replicate s []++bL a []
 |0,a=>rfl
 |s+1,a=>by rw[xZ,aak,bL,IW s a];rfl
section
variable{F:List Fn}{w n aC aX aO aW i:Nat}{c:Nat}{fr af:Fr}
def yd(hs:F[aC]?=some cQ)(hb:F[aW]?=some (fj aC))(hd:F[i]?=some (j4 aW aO aC aX))(c:List Pt)(p:Int)(h1:c.length<=5000)(h2:tot c<=4000)(h:p<0\/(bu c:Int)<p):cj F w (n+3) i [.val (aT c),.val (.int p)]=some 2:=by
 have hX:=iQ F w (n+2);have c1:=λfr=>dS (fr:=fr) (rS (F:=F) (w:=w) (n:=n) hs hb c (by omega) (by omega));refine rR hd rfl (kL hX (IB (b:=true) (af:=[some (.val (aT c)),some (.val (.int p)),none,none,none,none]) ?_ (by rw[mD rfl];exact kL hX IC)));by_cases h0:p<0
 .exact kJ (ay rfl (aK (aq rfl) (az rfl) kK) (by show decide _=_;exact aaE h0))
 .exact fG (ay rfl (aK (aq rfl) (az rfl) kK) (by show decide _=_;exact aad h0)) (ay rfl (aK (aq rfl) (bW (aF rfl (aq rfl) aV) (c1 _)) qx) (by show decide _=_;exact aaE (by omega)))
end
end Pv
namespace Pv
open Ev (D bw bq TY BI ME T E Es Eo It S Ss Fn big deep b2i rep bT cL bE aP cut bZ cJ slots)
noncomputable def qH(jQ:Nat)(qI:Nat):S:=.ret (.cl jQ (.cons (.cl qI (.cons (.v 0) .nil)) (.cons (.v 1) (.cons (.v 2) .nil))))
noncomputable def mG(jQ:Nat)(qI:Nat):Fn:=⟨3,3,(.cons (qH jQ qI) .nil)⟩
noncomputable def tZ(m6:Nat):S:=.set 2 (.cl m6 (.cons (.v 0) (.cons (.v 1) .nil)))
noncomputable def t6:S:=.iff (.nt (.ix (.v 2) (.c (.int 1)))) (.cons (.eU 2) .nil) .nil
noncomputable def mH:S:=.iff (.cmp .eq (.ix (.ix (.ix (.v 2) (.c (.int 1))) (.c (.int 0))) (.c (.int 0))) (.c (.str [100,114,111,112]))) (.cons (.ret (.c (.aU))) .nil) .nil
noncomputable def mJ(fZ:Nat):S:=.ret (.cl fZ (.cons (.ix (.v 2) (.c (.int 0))) .nil))
noncomputable def oJ(m6:Nat)(fZ:Nat):Fn:=⟨2,3,(.cons (tZ m6) (.cons t6 (.cons mH (.cons (mJ fZ) .nil))))⟩
noncomputable def yD:S:=.set 1 (.lst .nil)
noncomputable def yE:S:=.set 2 (.c (.int 0))
noncomputable def yF:S:=.set 3 (.c (.str []))
noncomputable def yG:S:=.set 4 (.c (.str []))
noncomputable def yH:Ss:=(.cons (.iff (.cmp .eq (.v 5) (.c (.str [100,114,111,112]))) (.cons (.set 3 (.v 6)) .nil) (.cons (.iff (.cmp .eq (.v 5) (.c (.str [112,117,116]))) (.cons (.set 4 (.v 6)) .nil) (.cons (.iff (.orr (.cmp .ne (.v 3) (.c (.str []))) (.cmp .ne (.v 4) (.c (.str [])))) (.cons (.exp (.me .append (.v 1) (.cons (.tup (.cons (.v 2) (.cons (.v 3) (.cons (.v 4) .nil)))) .nil))) .nil) .nil) (.cons (.set 2 (.bin .add (.bin .add (.v 2) (.bi .len (.cons (.v 3) .nil))) (.v 6))) (.cons (.set 3 (.c (.str []))) (.cons (.set 4 (.c (.str []))) .nil))))) .nil)) .nil)
noncomputable def yI(eH:Nat):S:=.for (.many [5,6]) (.seq (.bin .add (.cl eH (.cons (.v 0) .nil)) (.tup (.cons (.tup (.cons (.c (.str [107,101,101,112])) (.cons (.c (.int 1)) .nil))) .nil)))) yH
noncomputable def yJ:S:=.ret (.v 1)
noncomputable def El(eH:Nat):Fn:=⟨1,7,(.cons yD (.cons yE (.cons yF (.cons yG (.cons (yI eH) (.cons yJ .nil))))))⟩
noncomputable def t7:S:=.set 2 (.lst .nil)
noncomputable def t8:S:=.set 3 (.c (.int 0))
noncomputable def t9(b6:Nat):Ss:=(.cons (.exp (.me .extend (.v 2) (.cons (.cl b6 (.cons (.bin .sub (.v 4) (.v 3)) (.cons (.v 5) (.cons (.v 6) .nil)))) .nil))) (.cons (.set 3 (.bin .add (.v 4) (.bi .len (.cons (.v 5) .nil)))) .nil))
noncomputable def ua(b6:Nat):S:=.for (.many [4,5,6]) (.seq (.v 1)) (t9 b6)
noncomputable def uc(b6:Nat):S:=.exp (.me .extend (.v 2) (.cons (.cl b6 (.cons (.bin .sub (.v 0) (.v 3)) (.cons (.c (.str [])) (.cons (.c (.str [])) .nil)))) .nil))
noncomputable def ud(eH:Nat):S:=.ret (.cl eH (.cons (.gy (.v 2)) .nil))
noncomputable def ye(b6:Nat)(eH:Nat):Fn:=⟨2,7,(.cons t7 (.cons t8 (.cons (ua b6) (.cons (uc b6) (.cons (ud eH) .nil)))))⟩
noncomputable def Em(yf:Nat):S:=.iA [1,2] (.cl yf (.cons (.v 0) .nil))
noncomputable def En:S:=.set 3 (.lst .nil)
noncomputable def Ep:S:=.set 4 (.c (.int 0))
noncomputable def Er:Ss:=(.cons (.exp (.me .append (.v 3) (.cons (.tup (.cons (.v 4) (.cons (.bin .add (.v 4) (.bi .len (.cons (.v 6) .nil))) .nil))) .nil))) (.cons (.set 4 (.bin .add (.bin .add (.v 4) (.bi .len (.cons (.v 6) .nil))) (.bi .lE (.cons (.an (.cmp .lt (.v 5) (.bi .len (.cons (.v 1) .nil))) (.cmp .eq (.ix (.v 1) (.v 5)) (.c (.str [])))) .nil)))) .nil))
noncomputable def Et:S:=.for (.many [5,6]) (.enum (.v 2)) Er
noncomputable def Eu:S:=.ret (.v 3)
noncomputable def LQ(yf:Nat):Fn:=⟨1,7,(.cons (Em yf) (.cons En (.cons Ep (.cons Et (.cons Eu .nil)))))⟩
noncomputable def oK:Nat->List (List Nat)->List (List Nat)->List (Nat×Nat)
 |_,[],_=>[]
 |x,p :: ps,A=>(x,x+p.length) :: oK (x+p.length+(if A.head?=some []then 1 else 0)) ps A.tail
noncomputable def ig(c:List Pt):List (Nat×Nat):=oK 0 (b5 c) (asks c)
noncomputable def iT(p:Nat×Nat):V:=.tup [.int (p.1:Nat),.int (p.2:Nat)]
theorem Ew:∀(P A:List (List Nat)) (x:Nat),(oK x P A).length=P.length
 |[],_,_=>rfl
 |p :: P,A,x=>by simp[oK,Ew P]
theorem cm_get:∀(P A:List (List Nat)) (k x i:Nat),P.length=A.length+1->k<=A.length->∃lo,(oK x P A)[k]?=some (lo,x+(ofT i (P.take (k+1)) (A.take k)).length)/\lo+(P.getD k []).length=x+(ofT i (P.take (k+1)) (A.take k)).length
 |[],_,_,_,_,h,_=>by simp at h
 |p :: ps,A,0,x,i,_,_=>⟨x,by simp[oK,ofT],by simp[ofT]⟩
 |p :: ps,[],k+1,x,i,_,h=>by simp at h
 |p :: ps,a :: A,k+1,x,i,h,hk=>by
  obtain⟨lo,h1,h2⟩:=cm_get ps A k (x+p.length+(if a=[]then 1 else 0)) (i+1) (by simpa using h) (by simpa using hk);have e:x+(ofT i ((p :: ps).take (k+1+1)) ((a :: A).take (k+1))).length=x+p.length+(if a=[]then 1 else 0)+(ofT (i+1) (ps.take (k+1)) (A.take k)).length:=by
   simp only[aa0,ofT,PX,aag];split<;>simp<;>omega
  refine⟨lo,?_,?_⟩
  .rw[e,<-h1];simp[oK]
  .rw[e,<-h2];simp
def iI{α:Type}{I J:List α}{x y:α}(h:I++[x]=J++[y]):x=y:=by
 obtain⟨_,h⟩:=abq h rfl;simpa using h
def IX{X:List Pt}{r:Pt}(h:eO (X++[r])=true)(hr:r.word≠bP){I:List (List Nat)}{e:List Nat}(hg:bL (aG X) []=I++[e]):e=[]:=by
 have hn:=pN h;rw[gT]at hn;have hr0:=fX h r (by simp);cases r with
 |keep n=>exact absurd rfl hr
 |drop s=>
  cases s with
  |nil=>simp[Pt.n]at hr0
  |cons c s=>
   have:aG [Pt.drop (c :: s)]=.d c :: s.map .d:=by simp[aG,Pt.aG]
   rw[this]at hn;exact kg (aG X) [] I e (λz=>absurd rfl z) hn hg
 |put ps=>
  rcases abU X with rfl|⟨Y,q,hX⟩
  .exact(iI (I:=[]) (x:=[]) hg).symm
  .rw[abV]at hX;subst hX;obtain⟨J,e1,g1,_⟩:=jm (aG Y) [] [];rw[gT]at hg;have h2:=m7 (b:=aG [q]) g1;rw[hg]at h2;have zq:=fX h q (by simp);have V5:dW q.word iE=true:=by
    simp only[eO,GY]at h;rw[aaq,pK]at h;exact h.1.2.2 q.word (by simp) iE (by simp[Pt.word])
   cases q with
   |keep k=>
    obtain⟨k',rfl⟩:∃k',k=k'+1:=⟨k - 1,by simp[Pt.n]at zq;omega⟩
    have:aG [Pt.keep (k'+1)]=List.replicate (k'+1) .k:=by simp[aG,Pt.aG]
    rw[this,vD,show J++e1 :: (List.replicate k' []++[[]])=(J++e1 :: List.replicate k' [])++[[]]by simp]at h2;exact iI h2
   |put s=>simp[dW,Pt.word]at V5
   |drop s=>
    have:aG [Pt.drop s]=s.map .d:=by simp[aG,Pt.aG]
    rw[this,sA,<-aar]at h2;rw[iI h2];cases s with
    |nil=>simp[Pt.n]at zq
    |cons c s=>
     have e2:aG (Y++[Pt.drop (c :: s)])++aG [Pt.put ps]=aG Y++.d c :: (s.map .d++aG [Pt.put ps]):=by simp[gT,aG,Pt.aG]
     rw[e2]at hn;exact kg (aG Y) [] J e1 (λz=>absurd rfl z) hn g1
def G0{A:List Pt}(h:eO A=true){I:List (List Nat)}{e:List Nat}(hg:b5 A=I++[e]):jX A+e.length=cI A:=by
 rcases abU A with rfl|⟨X,q,hX⟩
 .rw[<-iI (I:=[]) (x:=[]) hg];rfl
 .rw[abV]at hX;subst hX;obtain⟨J,e1,g1,_⟩:=jm (aG X) [] [];unfold b5 at hg;rw[gT]at hg;have h2:=m7 (b:=aG [q]) g1;rw[hg]at h2;have zq:=fX h q (by simp);cases q with
  |keep k=>
   obtain⟨k',rfl⟩:∃k',k=k'+1:=⟨k - 1,by simp[Pt.n]at zq;omega⟩
   have:aG [Pt.keep (k'+1)]=List.replicate (k'+1) .k:=by simp[aG,Pt.aG]
   rw[this,vD,show J++e1 :: (List.replicate k' []++[[]])=(J++e1 :: List.replicate k' [])++[[]]by simp]at h2;rw[iI h2];simp[jX]
  |drop s=>
   have:aG [Pt.drop s]=s.map .d:=by simp[aG,Pt.aG]
   rw[this,sA,<-aar]at h2;rw[iI h2,IX h (by simp[Pt.word,fS,bP]) g1];simp[jX]
  |put s=>
   have:aG [Pt.put s]=s.map .p:=by simp[aG,Pt.aG]
   rw[this,vC]at h2;rw[iI h2,IX h (by simp[Pt.word,iE,bP]) g1];simp[jX,LP,cI,tot,ef,Pt.n]
def iJ(c:List Pt):(b5 c).length=(asks c).length+1:=by unfold b5;rw[mF,<-eK]
def ue{c A B:List Pt}{k:Nat}(h:Cut c k A B):(ig c)[k]?=some (jX A,cI A):=by
 obtain⟨g1,_,g3,_⟩:=Ai (pN (dY c)) h;have hk:k<=(asks c).length:=by rw[eG];have:=h.PY;omega
 obtain⟨lo,h1,h2⟩:=cm_get (b5 c) (asks c) k 0 0 (iJ c) hk;have e:0+(ofT 0 ((b5 c).take (k+1)) ((asks c).take k)).length=cI A:=by rw[<-g1,<-g3,<-Ag,mZ,acO]
 rw[e]at h1 h2;have hlt:k<(b5 c).length:=by rw[iJ];omega
 have hl:=G0 h.fA (I:=(b5 c).take k) (e:=(b5 c).getD k []) (by rw[g1,List.take_succ_eq_append_getElem hlt,List.getD_eq_getElem?_getD,WR hlt];rfl);rw[ig,h1]
 congr 2;omega
abbrev Rw:=Nat×List Nat×List Nat
noncomputable def gP(p:Nat)(g w:List Nat):List Rw:=if g≠[]\/w≠[]then [(p,g,w)]else []
noncomputable def fu:List Pt->Nat->List Nat->List Nat->List Rw
 |[],p,g,w=>gP p g w
 |.drop s :: r,p,_,w=>fu r p s w
 |.put s :: r,p,g,_=>fu r p g s
 |.keep n :: r,p,g,w=>gP p g w++fu r (p+g.length+n) [] []
noncomputable def kP:List (List Nat)->List (List Nat)->Nat->List Nat->List Rw
 |a :: as,p :: ps,st,g=>if a=[]then gP st g p++kP as ps (st+g.length+1) []else kP as ps st (g++a)
 |_,p :: _,st,g=>gP st g p
 |_,[],_,_=>[]
theorem IY(A P:List (List Nat)):∀(n st:Nat),kP (List.replicate n []++A) (List.replicate n []++P) st []=kP A P (st+n) []
 |0,st=>by simp
 |n+1,st=>by
  simp only[xZ,aak,kP,aan];rw[show gP st [] []=[]by simp[gP],IY A P n (st+[].length+1)];simp;congr 1;omega
theorem IZ(A P:List (List Nat)):∀(s:List Nat) (st:Nat) (g:List Nat),kP (s.map (λc=>[c])++A) (List.replicate s.length []++P) st g=kP A P st (g++s)
 |[],st,g=>by simp
 |c :: s,st,g=>by
  simp only[aaa,aak,aai,xZ,kP];rw[Yv (by simp),IZ A P s st (g++[c])];simp
theorem vE:∀(R:List Pt) (p:Nat) (g w:List Nat),eO R=true->(g≠[]->∀q∈R.head?,ef q=false)->(w≠[]->∀q∈R.head?,cZ q=true)->fu R p g w=kP (asks R) (bL (aG R) w) p g
 |[],p,g,w,_,_,_=>by simp[fu,asks,aG,bL,kP]
 |.keep n :: R,p,g,w,h,_,_=>by
  obtain⟨h1,_,_⟩:=dZ h;obtain⟨m,rfl⟩:∃m,n=m+1:=⟨n - 1,by have:=fX h (.keep n) (by simp);simp[Pt.n]at this;omega⟩
  have e1:asks (.keep (m+1) :: R)=[] :: (List.replicate m []++asks R):=by simp[asks,Pt.asks,xZ]
  have e2:bL (aG (.keep (m+1) :: R)) w=w :: (List.replicate m []++bL (aG R) []):=by
   have:aG (.keep (m+1) :: R)=.k :: (List.replicate m .k++aG R):=by simp[aG,Pt.aG,xZ]
   rw[this,bL,IW]
  rw[e1,e2];simp only[fu,kP,aan];rw[IY,vE R _ [] [] h1 (λz=>absurd rfl z) λz=>absurd rfl z]
  congr 2;omega
 |.drop s :: R,p,g,w,h,hg,hw=>by
  obtain⟨h1,_,h3⟩:=dZ h;have g0:g=[]:=by
   by_cases z:g=[]
   .exact z
   .exact absurd (hg z _ rfl) (by simp[ef])
  have w0:w=[]:=by
   by_cases z:w=[]
   .exact z
   .exact absurd (hw z _ rfl) (by simp[cZ])
  subst g0;subst w0;have e1:asks (.drop s :: R)=s.map (λc=>[c])++asks R:=by simp[asks,Pt.asks]
  have e2:bL (aG (.drop s :: R)) []=List.replicate s.length []++bL (aG R) []:=by
   have:aG (.drop s :: R)=s.map .d++aG R:=by simp[aG,Pt.aG]
   rw[this,m7 (I:=List.replicate s.length []) (e:=[]) (sA s [])]
  rw[e1,e2,IZ];simp only[fu];exact vE R p s [] h1 (λ_ q hq=>by
   have:=h3 q hq;cases q with
   |drop s=>simp[dW,Pt.word]at this
   |_=>rfl) λz=>absurd rfl z
 |.put s :: R,p,g,w,h,_,hw=>by
  obtain⟨h1,_,h3⟩:=dZ h;have w0:w=[]:=by
   by_cases z:w=[]
   .exact z
   .exact absurd (hw z _ rfl) (by simp[cZ])
  subst w0;have e1:asks (.put s :: R)=asks R:=by simp[asks,Pt.asks]
  have e2:bL (aG (.put s :: R)) []=bL (aG R) s:=by
   have:aG (.put s :: R)=s.map .p++aG R:=by simp[aG,Pt.aG]
   rw[this,m7 (I:=[]) (e:=s) (vC s [])];rfl
  rw[e1,e2];simp only[fu];have hk:∀q∈R.head?,cZ q=true:=λq hq=>by
   have:=h3 q hq;cases q with
   |keep n=>rfl
   |put s=>simp[dW,Pt.word]at this
   |drop s=>simp[dW,Pt.word]at this
  exact vE R p g s h1 (λ_ q hq=>by have:=hk q hq;cases q<;>simp_all [cZ,ef]) λ_=>hk
def lP(k:Nat)(g w:List Nat):aG (bI k g w)=List.replicate k .k++(g.map .d++w.map .p):=by
 unfold bI;by_cases hk:0<k<;>by_cases hg:g=[]<;>by_cases hw:w=[]<;>simp[hk,hg,hw,aG,Pt.aG]<;>omega
noncomputable def gW:List Rw->Nat->Nat->List Pt
 |[],th,m=>bI (m - th) [] []
 | (p,g,w) :: r,th,m=>bI (p - th) g w++gW r (p+g.length) m
def Ey{p th m:Nat}{g w:List Nat}(r:List Rw)(x:List At)(ht:th<=p)(h1:aG (gW r (p+g.length) m)=x)(h2:g=[]->w=[]->aG (gW r th m)=List.replicate (p - th) .k++x):aG (gW (gP p g w++r) th m)=List.replicate (p - th) .k++(g.map .d++(w.map .p++x)):=by
 unfold gP;split
 .simp only[List.singleton_append,gW];rw[gT,lP,h1];simp
 .rename_i h;simp only[not_or,ne_eq,Classical.not_not]at h;obtain⟨rfl,rfl⟩:=h;rw[aaV,h2 rfl rfl];simp
theorem sC:∀(R:List Pt) (p th m:Nat) (g w:List Nat),eO R=true->(g≠[]->∀q∈R.head?,ef q=false)->(w≠[]->∀q∈R.head?,cZ q=true)->th<=p->m=p+g.length+bu R->aG (gW (fu R p g w) th m)=List.replicate (p - th) .k++(g.map .d++(w.map .p++aG R))
 |[],p,th,m,g,w,_,_,_,ht,hm=>by
  have hm:m=p+g.length:=by simpa[bu,tot]using hm
  have:=Ey (p:=p) (th:=th) (m:=m) (g:=g) (w:=w) [] [] ht (by simp only[gW];rw[lP,hm];simp) (λh1 h2=>by subst h1;simp only[gW];rw[lP,hm];simp);rw[aae]at this;simp only[fu];rw[this];simp[aG]
 |.keep n :: R,p,th,m,g,w,h,_,_,ht,hm=>by
  obtain⟨h1,_,_⟩:=dZ h;rw[pH]at hm;have ih:=λth (ht:th<=p+g.length+n)=>sC R (p+g.length+n) th m [] [] h1 (λz=>absurd rfl z) (λz=>absurd rfl z) ht (by simp;omega);simp only[fu];have e:aG (.keep n :: R)=List.replicate n .k++aG R:=by simp[aG,Pt.aG]
  rw[e];refine Ey _ _ ht ?_ λh2 h3=>?_
  .rw[ih _ (by omega),show p+g.length+n - (p+g.length)=n by omega];simp
  .subst h2;rw[ih th (by simp;omega)];simp only[abA,aaV,acz,Nat.add_zero];rw[<-aar,List.replicate_append_replicate]
   congr 2;omega
 |.drop s :: R,p,th,m,g,w,h,hg,hw,ht,hm=>by
  obtain⟨h1,_,h3⟩:=dZ h;have g0:g=[]:=by
   by_cases z:g=[]
   .exact z
   .exact absurd (hg z _ rfl) (by simp[ef])
  have w0:w=[]:=by
   by_cases z:w=[]
   .exact z
   .exact absurd (hw z _ rfl) (by simp[cZ])
  subst g0;subst w0;rw[pI]at hm;simp only[fu];rw[sC R p th m s [] h1 (λ_ q hq=>by
   have:=h3 q hq;cases q with
   |drop s=>simp[dW,Pt.word]at this
   |_=>rfl) (λz=>absurd rfl z) ht (by simp at hm ⊢;omega)]
  simp[aG,Pt.aG]
 |.put s :: R,p,th,m,g,w,h,_,hw,ht,hm=>by
  obtain⟨h1,_,h3⟩:=dZ h;have w0:w=[]:=by
   by_cases z:w=[]
   .exact z
   .exact absurd (hw z _ rfl) (by simp[cZ])
  subst w0;rw[pJ]at hm;simp only[fu];have hk:∀q∈R.head?,cZ q=true:=λq hq=>by
   have:=h3 q hq;cases q with
   |keep n=>rfl
   |put s=>simp[dW,Pt.word]at this
   |drop s=>simp[dW,Pt.word]at this
  rw[sC R p th m g s h1 (λ_ q hq=>by have:=hk q hq;cases q<;>simp_all [cZ,ef]) (λ_=>hk) ht hm];simp[aG,Pt.aG]
noncomputable def fT(c:List Pt):List Rw:=fu (bF c) 0 [] []
def LR(c:List Pt):bF (gW (fT c) 0 (bu c))=bF c:=by
 have:=sC (bF c) 0 0 (bu c) [] [] (dY c) (λz=>absurd rfl z) (λz=>absurd rfl z) (Ad _) (by rw[iG];simp);rw[<-D8 c];exact GS (by rw[fT,this];simp)
def Qg(c:List Pt):fT c=kP (asks c) (b5 c) 0 []:=by
 rw[fT,vE (bF c) 0 [] [] (dY c) (λz=>absurd rfl z) λz=>absurd rfl z,iS];exact aab (λz=>kP (asks c) z 0 []) (qG c)
noncomputable def BR:List Nat:=[97,104,101,97,100]
noncomputable def BU:List Nat:=[98,101,104,105,110,100]
noncomputable def rV(r:Rw):V:=.tup [.int (r.1:Nat),.str r.2.1,.str r.2.2]
def Sv{fr:Fr}{i j k:Nat}{u v x:V}{a b c:Option Sl}(ea:fr[i]?=some a)(ha:vo a)(eb:(fr.set i (some (.val u)))[j]?=some b)(hb:vo b)(ec:((fr.set i (some (.val u))).set j (some (.val v)))[k]?=some c)(hc:vo c):bJ (.many [i,j,k]) (.tup [u,v,x]) fr=some (((fr.set i (some (.val u))).set j (some (.val v))).set k (some (.val x))):=by
 show(put fr i (.val u)).bind _=_;rw[fV ea ha];show(put _ j (.val v)).bind _=_;rw[fV eb hb];show(put _ k (.val x)).bind _=_;rw[fV ec hc];rfl
def Aj(c:List Pt):(iH c).length<=tot c/\tot (iH c)=tot c:=by
 have h1:tot (iH c)=tot c:=by
  simp only[iH];rw[kN];induction c with
  |nil=>rfl
  |cons p c ih=>cases p<;>simp[sw,Pt.sw,tot,Pt.n]at ih ⊢<;>omega
 exact⟨by have:=fY (fX (dY (sw c)));simp only[iH]at h1 ⊢;omega,h1⟩
section
variable{F:List Fn}{w n i aE aO aC aR aX aW bO dX qJ m8:Nat}
def qK(hst:F[aE]?=some cu)(hf:F[aO]?=some (eY aE))(hs:F[aC]?=some cQ)(hp:F[aR]?=some cV)(ht:F[aX]?=some (ez aR aC))(hb:F[aW]?=some (fj aC))(ha:F[bO]?=some (j7 aC))(hc:F[dX]?=some (j4 aW aO aC aX))
  (hd:F[i]?=some (jP dX bO)) (hw:5000<w) (c:List Pt) (p:Nat) (h1:c.length<=900) (h2:tot c<=900) (h:p<=bu c) :
  ∃A B,Cut c p A B/\run F w (n+4) i [.val (aT c),.val (.int p),.val (.str BU)]=some (.int (cI A),[]):=by
 obtain⟨A,B,r,C⟩:=pM (F:=F) (w:=w) (n:=n) hst hf hs hp ht hb hc hw c p (by omega) (by omega) h;have b1:=C.GU;have b2:=C.lA;refine⟨A,B,C,bV hd rfl ?_⟩;refine ai (aY (b7 (bW (aF rfl (aq rfl) (aF rfl (aq rfl) aV)) (call2 r)) (az rfl) rfl) rfl rfl ?_);refine ai (aN (b:=false) (xD (ay rfl (aK (aq rfl) (az rfl) cC) rfl)) (λh=>absurd h (by decide)) λ_=>aD ?_);exact ai (b8 (bW (aF rfl (aq rfl) aV) (dS (oG (F:=F) (w:=w) (n:=n+1) hs ha A (by omega) (by omega)))) ⟨rfl,rfl⟩)
def sD(hs:F[aC]?=some cQ)(hb:F[aW]?=some (fj aC))(hc:F[dX]?=some (j4 aW aO aC aX))(hd:F[i]?=some (jP dX bO))(c:List Pt)(p:Int)(v:V)(h1:c.length<=900)(h2:tot c<=900)(h:p<0\/(bu c:Int)<p) :
  cj F w (n+4) i [.val (aT c),.val (.int p),.val v]=some 2:=by
 have hX:=iQ F w (n+3);have r:=yd (F:=F) (w:=w) (n:=n) hs hb hc c p (by omega) (by omega) h;exact rR hd rfl (kL hX (ID (V1 (Gn (aF rfl (aq rfl) (aF rfl (aq rfl) aV)) (oB (vs:=[aT c,.int p]) r)))))
def kQ(hst:F[aE]?=some cu)(hf:F[aO]?=some (eY aE))(hu:F[m8]?=some (qz aO))(hd:F[i]?=some (mG qJ m8))(c:List Pt)(p s:V)(h1:c.length<=900)(h2:tot c<=900){v:V}(r:run F w (n+4) qJ [.val (aT (iH c)),.val p,.val s]=some (v,[])) :
  run F w (n+5) i [.val (aT c),.val p,.val s]=some (v,[]):=
 bV hd rfl (ai (b8 (bW (aF rfl (bW (aF rfl (aq rfl) aV) (dS (rY (F:=F) (w:=w) (n:=n+1) hst hf hu c (by omega) (by omega)))) (aF rfl (aq rfl) (aF rfl (aq rfl) aV))) (iw r)) ⟨rfl,rfl⟩))
def pQ(hst:F[aE]?=some cu)(hf:F[aO]?=some (eY aE))(hu:F[m8]?=some (qz aO))(hd:F[i]?=some (mG qJ m8))(c:List Pt)(p s:V)(h1:c.length<=900)(h2:tot c<=900){k:Nat}(r:cj F w (n+4) qJ [.val (aT (iH c)),.val p,.val s]=some k) :
  cj F w (n+5) i [.val (aT c),.val p,.val s]=some k:=by
 have hX:=iQ F w (n+4);exact rR hd rfl (kL hX (y_ret (Gn (aF rfl (bW (aF rfl (aq rfl) aV) (dS (rY (F:=F) (w:=w) (n:=n+1) hst hf hu c (by omega) (by omega)))) (aF rfl (aq rfl) (aF rfl (aq rfl) aV))) (oB (vs:=[aT (iH c),p,s]) r))))
def yg{c A B:List Pt}{p:Nat}(C:Cut c p A B):(p=bu c/\B=[])\/(p<bu c/\∃q R,B=q :: R/\((cZ q=true/\(asks c)[p]?=some [])\/(ef q=true/\∃x,(asks c)[p]?=some [x]))):=by
 have hb:=C.PY;obtain⟨_,_,_,g4⟩:=Ai (pN (dY c)) C;cases B with
 |nil=>exact .inl ⟨by simpa[bu,tot]using hb,rfl⟩
 |cons q R=>
  have hq:=C.pB q (by simp);have hd:=C.hd;have e:(asks c)[p]?=(asks (q :: R))[0]?:=by rw[g4,acV];simp
  cases q with
  |put s=>
   cases s with
   |nil=>simp[Pt.n]at hq
   |cons x s=>simp[aG,Pt.aG,xX]at hd
  |keep k=>
   obtain⟨m,rfl⟩:∃m,k=m+1:=⟨k - 1,by simp[Pt.n]at hq;omega⟩
   rw[pH]at hb;refine .inr ⟨by omega,_,_,rfl,.inl ⟨rfl,?_⟩⟩;rw[e];simp[asks,Pt.asks,xZ]
  |drop s=>
   cases s with
   |nil=>simp[Pt.n]at hq
   |cons x s=>
    rw[pI,aai]at hb;refine .inr ⟨by omega,_,_,rfl,.inr ⟨rfl,x,?_⟩⟩;rw[e];simp[asks,Pt.asks]
def G1(hst:F[aE]?=some cu)(hf:F[aO]?=some (eY aE))(hs:F[aC]?=some cQ)(hp:F[aR]?=some cV)(ht:F[aX]?=some (ez aR aC))(hb:F[aW]?=some (fj aC))(ha:F[bO]?=some (j7 aC))(hc:F[dX]?=some (j4 aW aO aC aX))
  (hd:F[i]?=some (oJ dX bO)) (hw:5000<w) (c:List Pt) (p:Nat) (h1:c.length<=900) (h2:tot c<=900) (h:p<bu c) :
  ∃A B,Cut c p A B/\((run F w (n+4) i [.val (aT c),.val (.int p)]=some (.int (cI A),[])/\(asks c)[p]?=some [])\/(run F w (n+4) i [.val (aT c),.val (.int p)]=some (.aU,[])/\∃x,(asks c)[p]?=some [x])):=by
 obtain⟨A,B,r,C⟩:=pM (F:=F) (w:=w) (n:=n) hst hf hs hp ht hb hc hw c p (by omega) (by omega) (by omega);have b1:=C.GU;have b2:=C.lA;refine⟨A,B,C,?_⟩;rcases yg C with ⟨h0,_⟩|⟨_,q,R,rfl,hq⟩
 .omega
 .have st:∀v:V,Wp (exs (run F w (n+3)) w (.cons mH (.cons (mJ bO) .nil)) [some (.val (aT c)),some (.val (.int p)),some (.val (.tup [aT A,aT (q :: R)]))]) (λg fr=>g=.ret v/\outs 2 fr=[])->run F w (n+4) i [.val (aT c),.val (.int p)]=some (v,[]):=λv q'=>by
   refine bV hd rfl ?_;refine ai (aY (bW (aF rfl (aq rfl) (aF rfl (aq rfl) aV)) (call2 r)) rfl rfl ?_);exact ai (aN (b:=false) (BB (b:=true) (ay rfl (b7 (aq rfl) (az rfl) rfl) rfl)) (λh=>absurd h (by decide)) λ_=>aD q')
  rcases hq with ⟨hk,ha1⟩|⟨hk,x,ha1⟩
  .refine .inl ⟨st _ ?_,ha1⟩;cases q with
   |keep k=>
    have i0:cY (aT (Pt.keep k :: R)) (.int 0)=some (Pt.v (.keep k)):=by show bE (Pt.v (.keep k) :: R.map Pt.v) ((0:Nat):Int)=_;rw[gQ];rfl
    have i1:cY (Pt.v (.keep k)) (.int 0)=some (.str bP):=rfl;refine ai (aN (b:=false) (ay rfl (aK (b7 (b7 (b7 (aq rfl) (az rfl) rfl) (az rfl) i0) (az rfl) i1) (az rfl) cC) rfl) (λh=>absurd h (by decide)) λ_=>aD ?_);exact ai (b8 (bW (aF rfl (b7 (aq rfl) (az rfl) rfl) aV) (dS (oG (F:=F) (w:=w) (n:=n+1) hs ha A (by omega) (by omega)))) ⟨rfl,rfl⟩)
   |put s=>cases hk
   |drop s=>cases hk
  .refine .inr ⟨st _ ?_,x,ha1⟩;cases q with
   |drop s=>
    have i0:cY (aT (Pt.drop s :: R)) (.int 0)=some (Pt.v (.drop s)):=by show bE (Pt.v (.drop s) :: R.map Pt.v) ((0:Nat):Int)=_;rw[gQ];rfl
    have i1:cY (Pt.v (.drop s)) (.int 0)=some (.str fS):=rfl;exact ai (aN (b:=true) (ay rfl (aK (b7 (b7 (b7 (aq rfl) (az rfl) rfl) (az rfl) i0) (az rfl) i1) (az rfl) cC) rfl) (λ_=>ai (b8 (az rfl) ⟨rfl,rfl⟩)) λh=>absurd h (by decide))
   |keep k=>cases hk
   |put s=>cases hk
def u0(hst:F[aE]?=some cu)(hf:F[aO]?=some (eY aE))(hs:F[aC]?=some cQ)(hp:F[aR]?=some cV)(ht:F[aX]?=some (ez aR aC))(hb:F[aW]?=some (fj aC))(hc:F[dX]?=some (j4 aW aO aC aX))
  (hd:F[i]?=some (oJ dX bO)) (hw:5000<w) (c:List Pt) (p:Int) (h1:c.length<=900) (h2:tot c<=900) (h:p<0\/(bu c:Int)<=p):cj F w (n+4) i [.val (aT c),.val (.int p)]=some 2:=by
 have hX:=iQ F w (n+3);by_cases h0:p=bu c
 .subst h0;obtain⟨A,B,r,C⟩:=pM (F:=F) (w:=w) (n:=n) hst hf hs hp ht hb hc hw c (bu c) (by omega) (by omega) (by omega);rcases yg C with ⟨_,rfl⟩|⟨h3,_⟩
  .refine rR hd rfl (Py (aY (bW (aF rfl (aq rfl) (aF rfl (aq rfl) aV)) (call2 r)) rfl rfl ⟨rfl,?_⟩));exact kL hX (IB (b:=true) (BB (b:=false) (ay rfl (b7 (aq rfl) (az rfl) rfl) rfl)) (by rw[mD rfl];exact kL hX IC))
  .omega
 .have r:=yd (F:=F) (w:=w) (n:=n) hs hb hc c p (by omega) (by omega) (by omega);exact rR hd rfl (kL hX (ID (Gn (aF rfl (aq rfl) (aF rfl (aq rfl) aV)) (oB (vs:=[aT c,.int p]) r))))
noncomputable def oM:List Pt->Nat->List Nat->List Nat->List Rw
 |[],_,_,_=>[]
 |.drop s :: r,p,_,w=>oM r p s w
 |.put s :: r,p,g,_=>oM r p g s
 |.keep n :: r,p,g,w=>gP p g w++oM r (p+g.length+n) [] []
theorem pO:∀(R:List Pt) (p:Nat) (g w:List Nat),oM (R++[Pt.keep 1]) p g w=fu R p g w
 |[],p,g,w=>by simp[oM,fu]
 |.drop s :: R,p,g,w=>by simp only[aak,oM,fu,pO R]
 |.put s :: R,p,g,w=>by simp only[aak,oM,fu,pO R]
 |.keep n :: R,p,g,w=>by simp only[aak,oM,fu,pO R]
noncomputable def tF(c:List Pt)(rows:List Rw)(st:Nat)(g x:List Nat)(a b:Option Sl):Fr:=[some (.val (aT c)),some (.own (rows.map rV)),some (.val (.int st)),some (.val (.str g)),some (.val (.str x)),a,b]
def Ak{P:aL}{c:List Pt}{rows:List Rw}{st m:Nat}{g x:List Nat}{Q:Fl->Fr->Prop}(hg:g.length<=900)(q:Q .nx (tF c rows (st+g.length+m) [] [] (some (.val (.str bP))) (some (.val (.int m))))):Wp (exs P w (.cons (.set 2 (.bin .add (.bin .add (.v 2) (.bi .len (.cons (.v 3) .nil))) (.v 6))) (.cons (.set 3 (.c (.str []))) (.cons (.set 4 (.c (.str []))) .nil))) (tF c rows st g x (some (.val (.str bP))) (some (.val (.int m))))) Q:=by
 have lg:dz .len [.str g]=some (.int (g.length:Nat)):=abe (by omega);have a1:Pv.bD .add (.int (st:Int)) (.int (g.length:Nat))=some (.int ((st+g.length:Nat):Int)):=by rw[cB];congr 2
 have a2:Pv.bD .add (.int ((st+g.length:Nat):Int)) (.int (m:Nat))=some (.int ((st+g.length+m:Nat):Int)):=by rw[cB];congr 2
 refine ai (aY (ao:=tF c rows (st+g.length+m) g x (some (.val (.str bP))) (some (.val (.int m)))) (bg (bg (aq rfl) (eS (av (aq rfl) aI) lg) a1) (aq rfl) a2) rfl rfl ?_);refine ai (aY (ao:=tF c rows (st+g.length+m) [] x (some (.val (.str bP))) (some (.val (.int m)))) (az rfl) rfl rfl ?_);exact ai (aY (ao:=tF c rows (st+g.length+m) [] [] (some (.val (.str bP))) (some (.val (.int m)))) (az rfl) rfl rfl (aD q))
def yK(hst:F[aE]?=some cu)(hf:F[aO]?=some (eY aE))(hd:F[i]?=some (El aO))(c:List Pt)(h1:c.length<=900)(h2:tot c<=900):run F w (n+3) i [.val (aT c)]=some (.lst ((fT c).map rV),[]):=by
 have t1:=kN c;have l1:=fY (fX (dY c));have ad:Pv.bD .add (aT (bF c)) (.tup [.tup [.str [107,101,101,112],.int 1]])=some (aT (bF c++[Pt.keep 1])):=vt (a:=bF c) (b:=[Pt.keep 1]) (by simp;omega);refine bV hd rfl ?_;refine ai (eX (l:=[]) (fQ aI mW) rfl rfl ?_);refine ai (aY (az rfl) rfl rfl ?_);refine ai (aY (az rfl) rfl rfl ?_);refine ai (aY (az rfl) rfl rfl ?_);refine ai (jA (vs:=(bF c++[Pt.keep 1]).map Pt.v) (af:=tF c [] 0 [] [] none none) (jk (bg (bW (aF rfl (aq rfl) aV) (dS (kM (F:=F) (w:=w) (n:=n) hst hf c (by omega) (by omega)))) (cT (av (cT (av (az rfl) (av (az rfl) aI)) eW) aI) rM) ad) rfl) ?_);have hbd:∀q∈bF c++[Pt.keep 1],q.n<=900:=λq hq=>by
  rcases List.mem_append.mp hq with hq|hq
  .have:=GH hq;omega
  .rw[List.mem_singleton.mp hq];decide
 refine fF (e:=Pt.v) (λp l fr=>p++l=bF c++[Pt.keep 1]/\∃rows st g x a b,rows.length<=p.length/\g.length<=900/\rows++oM l st g x=fT c/\vo a/\vo b/\fr=tF c rows st g x a b) (λp q l fr ⟨hp,rows,st,g,x,a,b,hl,hg,he,ha,hb,hfr⟩=>?_) (λp fr ⟨hp,rows,st,g,x,a,b,hl,hg,he,ha,hb,hfr⟩=>?_) _ [] _ ⟨rfl,[],0,[],[],none,none,by simp,by simp,by rw[aaV,pO];rfl,.none,.none,rfl⟩
 .subst hfr;have hq:=hbd q (by rw[<-hp];simp);have hpl:=aab List.length hp;rw[PX,aai,PX,aav]at hpl;have hp2:(p++[q])++l=bF c++[Pt.keep 1]:=by simpa using hp
  cases q with
  |drop s=>
   refine dN (af:=tF c rows st g x (some (.val (.str fS))) (some (.val (.str s)))) (gq rfl ha rfl hb) ?_;refine ai (aN (b:=true) (ay rfl (aK (aq rfl) (az rfl) cC) rfl) (λ_=>?_) λh=>absurd h (by decide));refine ai (aY (ao:=tF c rows st s x (some (.val (.str fS))) (some (.val (.str s)))) (aq rfl) rfl rfl (aD (aD ?_)));rw[dR];exact⟨hp2,rows,st,s,x,_,_,by simp;omega,hq,he,.val,.val,rfl⟩
  |put s=>
   refine dN (af:=tF c rows st g x (some (.val (.str iE))) (some (.val (.str s)))) (gq rfl ha rfl hb) ?_;refine ai (aN (b:=false) (ay rfl (aK (aq rfl) (az rfl) cC) rfl) (λh=>absurd h (by decide)) λ_=>?_);refine ai (aN (b:=true) (ay rfl (aK (aq rfl) (az rfl) cC) rfl) (λ_=>?_) λh=>absurd h (by decide));refine ai (aY (ao:=tF c rows st g s (some (.val (.str iE))) (some (.val (.str s)))) (aq rfl) rfl rfl (aD (aD (aD ?_))));rw[dR];exact⟨hp2,rows,st,g,s,_,_,by simp;omega,hg,he,.val,.val,rfl⟩
  |keep m=>
   refine dN (af:=tF c rows st g x (some (.val (.str bP))) (some (.val (.int m)))) (gq rfl ha rfl hb) ?_;refine ai (aN (b:=false) (ay rfl (aK (aq rfl) (az rfl) cC) rfl) (λh=>absurd h (by decide)) λ_=>?_);refine ai (aN (b:=false) (ay rfl (aK (aq rfl) (az rfl) cC) rfl) (λh=>absurd h (by decide)) λ_=>?_);simp only[oM]at he;by_cases hr:g≠[]\/x≠[]
   .rw[gP,mD hr,<-aar]at he;have Qh:aH (run F w (n+2)) (.orr (.cmp .ne (.v 3) (.c (.str []))) (.cmp .ne (.v 4) (.c (.str [])))) (tF c rows st g x (some (.val (.str bP))) (some (.val (.int m))))=.ok true (tF c rows st g x (some (.val (.str bP))) (some (.val (.int m)))):=by
     by_cases yh:g=[]
     .exact fG (ay rfl (aK (aq rfl) (az rfl) gm) (by show(!decide (g=[]))=false;simp[yh])) (ay rfl (aK (aq rfl) (az rfl) gm) (by show(!decide (x=[]))=true;have:x≠[]:=hr.resolve_left (λz=>z yh);simp[this]))
     .exact kJ (ay rfl (aK (aq rfl) (az rfl) gm) (by show(!decide (g=[]))=true;simp[yh]))
    refine ai (aN (b:=true) Qh (λ_=>?_) λh=>absurd h (by decide));refine ai (fR (v:=.aU) (af:=tF c (rows++[(st,g,x)]) st g x (some (.val (.str bP))) (some (.val (.int m)))) (lq rfl rfl (av (cT (av (aq rfl) (av (aq rfl) (av (aq rfl) aI))) Bq) aI) ((j5 (by simp;omega)).trans (by simp[tF,rV]))) (aD ?_));refine Ak hg (aD (aD ?_));rw[dR];exact⟨hp2,_,_,_,_,_,_,by simp;omega,by simp,he,.val,.val,rfl⟩
   .rw[gP,Yv hr,aaV]at he;have hr':g=[]/\x=[]:=by simpa using hr
    refine ai (aN (b:=false) (fG (ay rfl (aK (aq rfl) (az rfl) gm) (by show(!decide (g=[]))=false;simp[hr'.1])) (ay rfl (aK (aq rfl) (az rfl) gm) (by show(!decide (x=[]))=false;simp[hr'.2]))) (λh=>absurd h (by decide)) λ_=>aD ?_);refine Ak hg (aD (aD ?_));rw[dR];exact⟨hp2,_,_,_,_,_,_,by simp;omega,by simp,he,.val,.val,rfl⟩
 .subst hfr;simp only[oM,aae]at he;rw[<-he];refine ai (b8 (af:=[some (.val (aT c)),some (.val (.lst (rows.map rV))),some (.val (.int st)),some (.val (.str g)),some (.val (.str x)),a,b]) ?_ ⟨rfl,rfl⟩);rw[show gj (tF c rows st g x a b)=[some (.val (aT c)),some (.val (.lst (rows.map rV))),some (.val (.int st)),some (.val (.str g)),some (.val (.str x)),a,b]by
   show [_,_,_,_,_,a.map Sl.eF,b.map Sl.eF]=_;rw[dU ha,dU hb];rfl]
  exact aq rfl
noncomputable def Ord:List Rw->Nat->Nat->Prop
 |[],th,m=>th<=m
 | (p,g,_) :: r,th,m=>th<=p/\Ord r (p+g.length) m
def Am{p th m:Nat}{g x:List Nat}{r:List Rw}(ht:th<=p)(h1:Ord r (p+g.length) m)(h2:g=[]->x=[]->Ord r th m):Ord (gP p g x++r) th m:=by
 unfold gP;split
 .exact⟨ht,h1⟩
 .rename_i h;simp only[not_or,ne_eq,Classical.not_not]at h;exact h2 h.1 h.2
theorem sE:∀(R:List Pt) (p th m:Nat) (g x:List Nat),eO R=true->(g≠[]->∀q∈R.head?,ef q=false)->th<=p->m=p+g.length+bu R->Ord (fu R p g x) th m
 |[],p,th,m,g,x,_,_,ht,hm=>by
  have hm:m=p+g.length:=by simpa[bu,tot]using hm
  have:=Am (x:=x) (r:=[]) (m:=m) (g:=g) ht (by show p+g.length<=m;omega) (λ_ _=>by show th<=m;omega)
  rwa [aae]at this
 |.keep k :: R,p,th,m,g,x,h,_,ht,hm=>by
  obtain⟨h1,_,_⟩:=dZ h;rw[pH]at hm;have ih:=λth (ht:th<=p+g.length+k)=>sE R (p+g.length+k) th m [] [] h1 (λz=>absurd rfl z) ht (by simp;omega);exact Am ht (ih _ (by omega)) λ_ _=>ih th (by omega)
 |.drop s :: R,p,th,m,g,x,h,hg,ht,hm=>by
  obtain⟨h1,_,h3⟩:=dZ h;have g0:g=[]:=by
   by_cases z:g=[]
   .exact z
   .exact absurd (hg z _ rfl) (by simp[ef])
  subst g0;rw[pI]at hm;exact sE R p th m s x h1 (λ_ q hq=>by
   have:=h3 q hq;cases q with
   |drop s=>simp[dW,Pt.word]at this
   |_=>rfl) ht (by simp at hm ⊢;omega)
 |.put s :: R,p,th,m,g,x,h,_,ht,hm=>by
  obtain⟨h1,_,h3⟩:=dZ h;rw[pJ]at hm;exact sE R p th m g s h1 (λ_ q hq=>by
   have:=h3 q hq;cases q with
   |drop s=>simp[dW,Pt.word]at this
   |_=>rfl) ht hm
def LS(c:List Pt):Ord (fT c) 0 (bu c):=sE (bF c) 0 0 (bu c) [] [] (dY c) (λz=>absurd rfl z) (Ad _) (by rw[iG];simp)
noncomputable def oF(m:Nat)(s:Sl)(ps:List Pt)(th:Nat)(a b d:Option Sl):Fr:=[some (.val (.int m)),some s,some (.own (ps.map Pt.v)),some (.val (.int th)),a,b,d]
def uf(hst:F[aE]?=some cu)(hf:F[aO]?=some (eY aE))(hd:F[i]?=some (ye aE aO))(rows:List Rw)(m:Nat)(ho:Ord rows 0 m)(hl:rows.length<=900)(hg:∀r∈rows,r.2.1.length<=900)(ht:tot (gW rows 0 m)<=900):run F w (n+3) i [.val (.int m),.bor (rows.map rV)]=some (aT (bF (gW rows 0 m)),[rows.map rV]):=by
 have st:=λ(k:Nat) (g x:List Nat) fr=>iw (fr:=fr) (lO (F:=F) (w:=w) (n:=n+1) (i:=aE) hst k g x);refine bV hd rfl ?_;refine ai (eX (l:=[]) (fQ aI mW) rfl rfl ?_);refine ai (aY (az rfl) rfl rfl ?_);refine ai (jA (vs:=rows.map rV) (af:=oF m (.ro (rows.map rV)) [] 0 none none none) (jk (iP rfl) rfl) ?_);refine fF (e:=rV) (λp l fr=>p++l=rows/\∃ps th a b d,ps++gW l th m=gW rows 0 m/\Ord l th m/\ps.length<=3*p.length/\vo a/\vo b/\vo d/\fr=oF m (.ro (rows.map rV)) ps th a b d) (λp r l fr ⟨hp,ps,th,a,b,d,he,hO,hpl,ha,hb,hd,hfr⟩=>?_) (λp fr ⟨hp,ps,th,a,b,d,he,hO,hpl,ha,hb,hd,hfr⟩=>?_) _ [] _ ⟨rfl,[],0,none,none,none,rfl,ho,by simp,.none,.none,.none,rfl⟩
 .subst hfr;obtain⟨p0,g,x⟩:=r;obtain⟨h1,h2⟩:=hO;have Yw:=aab List.length hp;rw[PX,aai]at Yw;have YX:g.length<=900:=hg (p0,g,x) (by rw[<-hp];simp);have sl:=g9 (p0 - th) g x;have s1:Pv.bD .sub (.int (p0:Int)) (.int (th:Int))=some (.int ((p0 - th:Nat):Int)):=by rw[mX];congr 2;omega
  have a1:Pv.bD .add (.int (p0:Int)) (.int (g.length:Nat))=some (.int ((p0+g.length:Nat):Int)):=by rw[cB];congr 2
  refine dN (af:=oF m (.ro (rows.map rV)) ps th (some (.val (.int p0))) (some (.val (.str g))) (some (.val (.str x)))) (Sv rfl ha rfl hb rfl hd) ?_;refine ai (fR (v:=.aU) (af:=oF m (.ro (rows.map rV)) (ps++bI (p0 - th) g x) th (some (.val (.int p0))) (some (.val (.str g))) (some (.val (.str x)))) (lq rfl rfl (av (bW (aF rfl (bg (aq rfl) (aq rfl) s1) (aF rfl (aq rfl) (aF rfl (aq rfl) aV))) (st _ _ _ _)) aI) ((tT (by simp;omega)).trans (by simp[oF]))) ?_);refine ai (aY (ao:=oF m (.ro (rows.map rV)) (ps++bI (p0 - th) g x) (p0+g.length) (some (.val (.int p0))) (some (.val (.str g))) (some (.val (.str x)))) (bg (aq rfl) (eS (av (aq rfl) aI) (abe (by omega))) a1) rfl rfl (aD ?_));rw[dR];exact⟨by simpa using hp,_,_,_,_,_,by rw[<-he];simp[gW],h2,by simp;omega,.val,.val,.val,rfl⟩
 .subst hfr;rw[aae]at hp;subst hp;simp only[gW]at he;have sl:=g9 (m - th) [] [];have hO:th<=m:=hO;have s1:Pv.bD .sub (.int (m:Int)) (.int (th:Int))=some (.int ((m - th:Nat):Int)):=by rw[mX];congr 2;omega
  refine ai (fR (v:=.aU) (af:=oF m (.ro (p.map rV)) (ps++bI (m - th) [] []) th a b d) (lq rfl rfl (av (bW (aF rfl (bg (aq rfl) (aq rfl) s1) (aF rfl (az rfl) (aF rfl (az rfl) aV))) (st _ _ _ _)) aI) ((tT (by simp;omega)).trans (by simp[oF]))) ?_);rw[he];have hlen:(gW p 0 m).length<=3000:=by rw[<-he];simp;omega
  refine ai (b8 (af:=[some (.val (.int m)),some (.ro (p.map rV)),some (.val (.lst ((gW p 0 m).map Pt.v))),some (.val (.int th)),a,b,d]) ?_ ⟨rfl,rfl⟩);rw[show gj (oF m (.ro (p.map rV)) (gW p 0 m) th a b d)=[some (.val (.int m)),some (.ro (p.map rV)),some (.val (.lst ((gW p 0 m).map Pt.v))),some (.val (.int th)),a,b,d]by
   show [_,_,_,_,a.map Sl.eF,b.map Sl.eF,d.map Sl.eF]=_;rw[dU ha,dU hb,dU hd];rfl]
  exact bW (aF rfl (pD (aq rfl) (by show gD _=some (aT (gW p 0 m));unfold gD;rw[mD (bX (by simp;omega))];rfl)) aV) (dS (kM (F:=F) (w:=w) (n:=n) hst hf (gW p 0 m) (by omega) (by omega)))
noncomputable def cF(c:List Pt)(fd:List (Nat×Nat))(x:Nat)(a b:Option Sl):Fr:=[some (.val (aT c)),some (.val (.lst (bN c))),some (.val (.lst ((b5 c).map V.str))),some (.own (fd.map iT)),some (.val (.int x)),a,b]
def u6{sF:Nat}(Yx:F[sF]?=some Ek)(hd:F[i]?=some (LQ sF))(c:List Pt)(hc:∀p∈c,0<p.n)(h1:tot c<=400):run F w (n+2) i [.val (aT c)]=some (.lst ((ig c).map iT),[]):=by
 have lA:=j9 c;have lG:=iJ c;have la:dz .len [.lst (bN c)]=some (.int ((asks c).length:Nat)):=by rw[K3,bN,aag]
 refine bV hd rfl ?_;refine ai (DS (bW (aF rfl (aq rfl) aV) (dS (x9 Yx c hc h1))) rfl ?_);refine ai (eX (l:=[]) (fQ aI mW) rfl rfl ?_);refine ai (aY (az rfl) rfl rfl ?_);refine ai (jA (vs:=(en 0 (b5 c)).map Qf) (af:=cF c [] 0 none none) (by rw[<-yc];exact tU (iP rfl) rfl) ?_);refine fF (e:=Qf) (λp l fr=>∃k ps fd x a b,l=en k ps/\k+ps.length=(b5 c).length/\(∀t∈ps,t∈b5 c)/\fd.length=k/\fd++oK x ps ((asks c).drop k)=ig c/\vo a/\vo b/\fr=cF c fd x a b) (λp q l fr ⟨k,ps,fd,x,a,b,hl,hk,hm,hfl,he,ha,hb,hfr⟩=>?_) (λp fr ⟨k,ps,fd,x,a,b,hl,hk,hm,hfl,he,ha,hb,hfr⟩=>?_) _ [] _ ⟨0,b5 c,[],0,none,none,rfl,by simp,(λ_ h=>h),rfl,rfl,.none,.none,rfl⟩
 .subst hfr;cases ps with
  |nil=>cases hl
  |cons t ps=>
   cases hl;have ht:t.length<=400:=by
    have:=x8 (aG c) [] t (hm t (by simp));rw[fW]at this;simp at this;omega
   have lt:dz .len [.str t]=some (.int (t.length:Nat)):=abe (by omega);have a1:Pv.bD .add (.int (x:Int)) (.int (t.length:Nat))=some (.int ((x+t.length:Nat):Int)):=by rw[cB];congr 2
   have key:∃b:Bool,(∀fr:Fr,fr[1]?=some (some (.val (.lst (bN c))))->fr[5]?=some (some (.val (.int (k:Int))))->ev (run F w (n+1)) true (.an (.cmp .lt (.v 5) (.bi .len (.cons (.v 1) .nil))) (.cmp .eq (.ix (.v 1) (.v 5)) (.c (.str [])))) fr=.ok (.bl b) fr)/\(if ((asks c).drop k).head?=some []then 1 else 0)=(if b then 1 else 0:Nat):=by
    by_cases hk:k<(asks c).length
    .have ed:(asks c).drop k=(asks c)[k] :: (asks c).drop (k+1):=aaQ hk;refine⟨decide ((asks c)[k]=[]),λfr h0 h3=>?_,?_⟩
     .have ix:cY (.lst (bN c)) (.int (k:Int))=some (.str (asks c)[k]):=by rw[gR,gQ,bN,aaj,WR hk];rfl
      exact R9 (aK (b:=true) (aq (by unfold jg;rw[h3])) (eS (av (aq (by unfold jg;rw[h0])) aI) la) (by rw[kK];exact aab some (aaE (by omega)))) (aK (b7 (aq (by unfold jg;rw[h0])) (aq (by unfold jg;rw[h3])) ix) (az rfl) cC)
     .rw[ed,List.head?_cons];by_cases z:(asks c)[k]=[]<;>simp[z]
    .have ed:(asks c).drop k=[]:=acB (by omega);refine⟨false,λfr h0 h3=>V0 (b:=false) (aK (aq (by unfold jg;rw[h3])) (eS (av (aq (by unfold jg;rw[h0])) aI) la) (by rw[kK];exact aab some (aad (by omega)))) (λh=>absurd h (by decide)) λ_=>⟨rfl,rfl⟩,?_⟩;rw[ed];simp
   obtain⟨b0,kb,kT⟩:=key;have a2:Pv.bD .add (.int ((x+t.length:Nat):Int)) (.int (if b0 then 1 else 0))=some (.int ((x+t.length+(if b0 then 1 else 0):Nat):Int)):=by rw[cB];congr 2;cases b0<;>simp
   refine dN (af:=cF c fd x (some (.val (.int (k:Int)))) (some (.val (.str t)))) (gq rfl ha rfl hb) ?_;refine ai (fR (v:=.aU) (af:=cF c (fd++[(x,x+t.length)]) x (some (.val (.int (k:Int)))) (some (.val (.str t)))) (lq rfl rfl (av (cT (av (aq rfl) (av (bg (aq rfl) (eS (av (aq rfl) aI) lt) a1) aI)) eW) aI) ((j5 (by rw[aai]at hk;simp;omega)).trans (by simp[cF,iT]))) ?_);refine ai (aY (ao:=cF c (fd++[(x,x+t.length)]) (x+t.length+(if b0 then 1 else 0)) (some (.val (.int (k:Int)))) (some (.val (.str t)))) (bg (bg (aq rfl) (eS (av (aq rfl) aI) lt) a1) (eS (av (kb _ rfl rfl) aI) O2) a2) rfl rfl (aD ?_));rw[dR];rw[aai]at hk;refine⟨k+1,ps,_,_,_,_,rfl,by omega,λu hu=>hm u (by simp[hu]),by simp;omega,?_,.val,.val,rfl⟩;rw[<-he];simp only[oK,kT,List.tail_drop];simp
 .subst hfr;cases ps with
  |cons t ps=>cases hl
  |nil=>
   simp only[oK,aae]at he;rw[<-he];refine ai (b8 (af:=[some (.val (aT c)),some (.val (.lst (bN c))),some (.val (.lst ((b5 c).map V.str))),some (.val (.lst (fd.map iT))),some (.val (.int x)),a,b]) ?_ ⟨rfl,rfl⟩);rw[show gj (cF c fd x a b)=[some (.val (aT c)),some (.val (.lst (bN c))),some (.val (.lst ((b5 c).map V.str))),some (.val (.lst (fd.map iT))),some (.val (.int x)),a,b]by
    show [_,_,_,_,_,a.map Sl.eF,b.map Sl.eF]=_;rw[dU ha,dU hb];rfl]
   exact aq rfl
end
end Pv
namespace Lw
@[reducible] noncomputable def V6:Ev.S:=.iff (.cmp .eq (.ix (.v 0) (.c (.int 0))) (.c (.str [107,101,101,112]))) (.cons (.ret (.ix (.v 0) (.c (.int 1)))) .nil) .nil
@[reducible] noncomputable def V7:Ev.S:=.ret (.bi .len (.cons (.ix (.v 0) (.c (.int 1))) .nil))
@[reducible] noncomputable def f0:Ev.Fn:=⟨1,1,(.cons V6 (.cons V7 .nil))⟩
@[reducible] noncomputable def V8:Ev.S:=.ret (.bi .sum (.cons (.comp (.cl 0 (.cons (.v 1) .nil)) (.one 1) (.seq (.v 0)) (.yes (.cmp .ne (.ix (.v 1) (.c (.int 0))) (.c (.str [112,117,116]))))) .nil))
@[reducible] noncomputable def f1:Ev.Fn:=⟨1,2,(.cons V8 .nil)⟩
@[reducible] noncomputable def V9:Ev.S:=.ret (.bi .sum (.cons (.comp (.cl 0 (.cons (.v 1) .nil)) (.one 1) (.seq (.v 0)) (.yes (.cmp .ne (.ix (.v 1) (.c (.int 0))) (.c (.str [100,114,111,112]))))) .nil))
@[reducible] noncomputable def f2:Ev.Fn:=⟨1,2,(.cons V9 .nil)⟩
@[reducible] noncomputable def Wa:Ev.S:=.set 1 (.lst .nil)
@[reducible] noncomputable def Wb:Ev.S:=.set 2 (.c (.int 0))
@[reducible] noncomputable def Wd:Ev.S:=.set 3 (.c (.str []))
@[reducible] noncomputable def We:Ev.S:=.set 4 (.c (.str []))
@[reducible] noncomputable def Wf:Ev.Ss:=(.cons (.iff (.cmp .eq (.v 5) (.c (.str [100,114,111,112]))) (.cons (.set 3 (.bin .add (.v 3) (.v 6))) .nil) (.cons (.iff (.cmp .eq (.v 5) (.c (.str [112,117,116]))) (.cons (.set 4 (.bin .add (.v 4) (.v 6))) .nil) (.cons (.iff (.cmp .gt (.v 6) (.c (.int 0))) (.cons (.iff (.orr (.cmp .ne (.v 3) (.c (.str []))) (.cmp .ne (.v 4) (.c (.str [])))) (.cons (.exp (.me .extend (.v 1) (.cons (.cl 4 (.cons (.v 2) (.cons (.v 3) (.cons (.v 4) .nil)))) .nil))) (.cons (.set 2 (.c (.int 0))) (.cons (.set 3 (.c (.str []))) (.cons (.set 4 (.c (.str []))) .nil)))) .nil) (.cons (.set 2 (.bin .add (.v 2) (.v 6))) .nil)) .nil) .nil)) .nil)) .nil)
@[reducible] noncomputable def Wg:Ev.S:=.for (.many [5,6]) (.seq (.v 0)) Wf
@[reducible] noncomputable def Wh:Ev.S:=.exp (.me .extend (.v 1) (.cons (.cl 4 (.cons (.v 2) (.cons (.v 3) (.cons (.v 4) .nil)))) .nil))
@[reducible] noncomputable def Wi:Ev.S:=.ret (.gy (.v 1))
@[reducible] noncomputable def f3:Ev.Fn:=⟨1,7,(.cons Wa (.cons Wb (.cons Wd (.cons We (.cons Wg (.cons Wh (.cons Wi .nil)))))))⟩
@[reducible] noncomputable def Wj:Ev.S:=.set 3 (.lst .nil)
@[reducible] noncomputable def Wk:Ev.S:=.iff (.cmp .gt (.v 0) (.c (.int 0))) (.cons (.exp (.me .append (.v 3) (.cons (.tup (.cons (.c (.str [107,101,101,112])) (.cons (.v 0) .nil))) .nil))) .nil) .nil
@[reducible] noncomputable def Wl:Ev.S:=.iff (.cmp .ne (.v 1) (.c (.str []))) (.cons (.exp (.me .append (.v 3) (.cons (.tup (.cons (.c (.str [100,114,111,112])) (.cons (.v 1) .nil))) .nil))) .nil) .nil
@[reducible] noncomputable def Wm:Ev.S:=.iff (.cmp .ne (.v 2) (.c (.str []))) (.cons (.exp (.me .append (.v 3) (.cons (.tup (.cons (.c (.str [112,117,116])) (.cons (.v 2) .nil))) .nil))) .nil) .nil
@[reducible] noncomputable def Wn:Ev.S:=.ret (.v 3)
@[reducible] noncomputable def f4:Ev.Fn:=⟨3,4,(.cons Wj (.cons Wk (.cons Wl (.cons Wm (.cons Wn .nil)))))⟩
@[reducible] noncomputable def Wo:Ev.S:=.ret (.cl 3 (.cons (.gy (.comp (.tup (.cons (.gY [(.str [107,101,101,112],.str [107,101,101,112]),(.str [112,117,116],.str [100,114,111,112]),(.str [100,114,111,112],.str [112,117,116])] (.v 1)) (.cons (.v 2) .nil))) (.many [1,2]) (.seq (.v 0)) .no)) .nil))
@[reducible] noncomputable def f5:Ev.Fn:=⟨1,3,(.cons Wo .nil)⟩
@[reducible] noncomputable def Wq:Ev.S:=.set 2 (.cl 7 (.cons (.me .pop (.v 0) .nil) (.cons (.v 1) .nil)))
@[reducible] noncomputable def Wr:Ev.S:=.iff (.cmp .gt (.cl 0 (.cons (.ix (.v 2) (.c (.int 1))) .nil)) (.c (.int 0))) (.cons (.exp (.me .append (.v 0) (.cons (.ix (.v 2) (.c (.int 1))) .nil))) .nil) .nil
@[reducible] noncomputable def Ws:Ev.S:=.ret (.ix (.v 2) (.c (.int 0)))
@[reducible] noncomputable def f6:Ev.Fn:=⟨2,3,(.cons Wq (.cons Wr (.cons Ws .nil)))⟩
@[reducible] noncomputable def Wt:Ev.S:=.set 2 (.ix (.v 0) (.c (.int 0)))
@[reducible] noncomputable def Wu:Ev.S:=.iff (.cmp .eq (.v 2) (.c (.str [107,101,101,112]))) (.cons (.ret (.tup (.cons (.tup (.cons (.v 2) (.cons (.v 1) .nil))) (.cons (.tup (.cons (.v 2) (.cons (.bin .sub (.ix (.v 0) (.c (.int 1))) (.v 1)) .nil))) .nil)))) .nil) .nil
@[reducible] noncomputable def Wv:Ev.S:=.ret (.tup (.cons (.tup (.cons (.v 2) (.cons (.sl (.ix (.v 0) (.c (.int 1))) .no (.yes (.v 1))) .nil))) (.cons (.tup (.cons (.v 2) (.cons (.sl (.ix (.v 0) (.c (.int 1))) (.yes (.v 1)) .no) .nil))) .nil)))
@[reducible] noncomputable def f7:Ev.Fn:=⟨2,3,(.cons Wt (.cons Wu (.cons Wv .nil)))⟩
@[reducible] noncomputable def Ww:Ev.S:=.iff (.orr (.cmp .lt (.v 1) (.c (.int 0))) (.cmp .gt (.v 1) (.cl 1 (.cons (.v 0) .nil)))) (.cons (.eU 2) .nil) .nil
@[reducible] noncomputable def Wx:Ev.S:=.set 2 (.gU (.rev (.cl 3 (.cons (.v 0) .nil))))
@[reducible] noncomputable def Wy:Ev.S:=.set 3 (.lst .nil)
@[reducible] noncomputable def Wz:Ev.S:=.set 4 (.v 1)
@[reducible] noncomputable def WA:Ev.Ss:=(.cons (.iff (.cmp .eq (.ix (.ix (.v 2) (.neg (.c (.int 1)))) (.c (.int 0))) (.c (.str [112,117,116]))) (.cons (.exp (.me .append (.v 3) (.cons (.me .pop (.v 2) .nil) .nil))) .nil) (.cons (.set 5 (.bi .min (.cons (.v 4) (.cons (.cl 0 (.cons (.ix (.v 2) (.neg (.c (.int 1)))) .nil)) .nil)))) (.cons (.exp (.me .append (.v 3) (.cons (.cl 6 (.cons (.v 2) (.cons (.v 5) .nil))) .nil))) (.cons (.set 4 (.bin .sub (.v 4) (.v 5))) .nil)))) .nil)
@[reducible] noncomputable def WB:Ev.S:=.jU (.an (.v 2) (.orr (.cmp .gt (.v 4) (.c (.int 0))) (.cmp .eq (.ix (.ix (.v 2) (.neg (.c (.int 1)))) (.c (.int 0))) (.c (.str [112,117,116]))))) WA
@[reducible] noncomputable def WC:Ev.S:=.ret (.tup (.cons (.gy (.v 3)) (.cons (.jS (.v 2)) .nil)))
@[reducible] noncomputable def f8:Ev.Fn:=⟨2,6,(.cons Ww (.cons Wx (.cons Wy (.cons Wz (.cons WB (.cons WC .nil))))))⟩
@[reducible] noncomputable def WD:Ev.S:=.set 3 (.ix (.cl 8 (.cons (.v 0) (.cons (.v 1) .nil))) (.c (.int 0)))
@[reducible] noncomputable def WE:Ev.S:=.iff (.an (.cmp .eq (.v 2) (.c (.str [97,104,101,97,100]))) (.an (.v 3) (.cmp .eq (.ix (.ix (.v 3) (.neg (.c (.int 1)))) (.c (.int 0))) (.c (.str [112,117,116]))))) (.cons (.ret (.cl 2 (.cons (.sl (.v 3) .no (.yes (.neg (.c (.int 1))))) .nil))) .nil) .nil
@[reducible] noncomputable def WG:Ev.S:=.ret (.cl 2 (.cons (.v 3) .nil))
@[reducible] noncomputable def f9:Ev.Fn:=⟨3,4,(.cons WD (.cons WE (.cons WG .nil)))⟩
@[reducible] noncomputable def Sw:Ev.S:=.ret (.cl 9 (.cons (.cl 5 (.cons (.v 0) .nil)) (.cons (.v 1) (.cons (.v 2) .nil))))
@[reducible] noncomputable def uN:Ev.Fn:=⟨3,3,(.cons Sw .nil)⟩
@[reducible] noncomputable def Sx:Ev.S:=.set 2 (.cl 8 (.cons (.v 0) (.cons (.v 1) .nil)))
@[reducible] noncomputable def Sy:Ev.S:=.iff (.nt (.ix (.v 2) (.c (.int 1)))) (.cons (.eU 2) .nil) .nil
@[reducible] noncomputable def Sz:Ev.S:=.iff (.cmp .eq (.ix (.ix (.ix (.v 2) (.c (.int 1))) (.c (.int 0))) (.c (.int 0))) (.c (.str [100,114,111,112]))) (.cons (.ret (.c (.aU))) .nil) .nil
@[reducible] noncomputable def SA:Ev.S:=.ret (.cl 2 (.cons (.ix (.v 2) (.c (.int 0))) .nil))
@[reducible] noncomputable def zy:Ev.Fn:=⟨2,3,(.cons Sx (.cons Sy (.cons Sz (.cons SA .nil))))⟩
@[reducible] noncomputable def SD:Ev.S:=.set 1 (.lst .nil)
@[reducible] noncomputable def SE:Ev.S:=.set 2 (.c (.int 0))
@[reducible] noncomputable def SG:Ev.S:=.set 3 (.c (.str []))
@[reducible] noncomputable def SH:Ev.S:=.set 4 (.c (.str []))
@[reducible] noncomputable def SI:Ev.Ss:=(.cons (.iff (.cmp .eq (.v 5) (.c (.str [100,114,111,112]))) (.cons (.set 3 (.v 6)) .nil) (.cons (.iff (.cmp .eq (.v 5) (.c (.str [112,117,116]))) (.cons (.set 4 (.v 6)) .nil) (.cons (.iff (.orr (.cmp .ne (.v 3) (.c (.str []))) (.cmp .ne (.v 4) (.c (.str [])))) (.cons (.exp (.me .append (.v 1) (.cons (.tup (.cons (.v 2) (.cons (.v 3) (.cons (.v 4) .nil)))) .nil))) .nil) .nil) (.cons (.set 2 (.bin .add (.bin .add (.v 2) (.bi .len (.cons (.v 3) .nil))) (.v 6))) (.cons (.set 3 (.c (.str []))) (.cons (.set 4 (.c (.str []))) .nil))))) .nil)) .nil)
@[reducible] noncomputable def SJ:Ev.S:=.for (.many [5,6]) (.seq (.bin .add (.cl 3 (.cons (.v 0) .nil)) (.tup (.cons (.tup (.cons (.c (.str [107,101,101,112])) (.cons (.c (.int 1)) .nil))) .nil)))) SI
@[reducible] noncomputable def SK:Ev.S:=.ret (.v 1)
@[reducible] noncomputable def Dl:Ev.Fn:=⟨1,7,(.cons SD (.cons SE (.cons SG (.cons SH (.cons SJ (.cons SK .nil))))))⟩
@[reducible] noncomputable def SM:Ev.S:=.set 2 (.lst .nil)
@[reducible] noncomputable def SN:Ev.S:=.set 3 (.c (.int 0))
@[reducible] noncomputable def SO:Ev.Ss:=(.cons (.exp (.me .extend (.v 2) (.cons (.cl 4 (.cons (.bin .sub (.v 4) (.v 3)) (.cons (.v 5) (.cons (.v 6) .nil)))) .nil))) (.cons (.set 3 (.bin .add (.v 4) (.bi .len (.cons (.v 5) .nil)))) .nil))
@[reducible] noncomputable def SQ:Ev.S:=.for (.many [4,5,6]) (.seq (.v 1)) SO
@[reducible] noncomputable def SS:Ev.S:=.exp (.me .extend (.v 2) (.cons (.cl 4 (.cons (.bin .sub (.v 0) (.v 3)) (.cons (.c (.str [])) (.cons (.c (.str [])) .nil)))) .nil))
@[reducible] noncomputable def SV:Ev.S:=.ret (.cl 3 (.cons (.gy (.v 2)) .nil))
@[reducible] noncomputable def Qi:Ev.Fn:=⟨2,7,(.cons SM (.cons SN (.cons SQ (.cons SS (.cons SV .nil)))))⟩
@[reducible] noncomputable def SW:Ev.S:=.iff (.cmp .eq (.v 0) (.lst .nil)) (.cons (.ret (.bin .mul (.c (.int 7)) (.v 1))) .nil) .nil
@[reducible] noncomputable def SX:Ev.S:=.ret (.bin .add (.ix (.v 0) (.bin .mod (.v 1) (.bi .len (.cons (.v 0) .nil)))) (.bin .mul (.c (.int 6553)) (.bin .fdiv (.v 1) (.bi .len (.cons (.v 0) .nil)))))
@[reducible] noncomputable def Qj:Ev.Fn:=⟨2,2,(.cons SW (.cons SX .nil))⟩
@[reducible] noncomputable def SY:Ev.S:=.set 3 (.bin .mod (.bin .add (.bin .mul (.bin .mod (.cl 14 (.cons (.v 0) (.cons (.v 1) .nil))) (.c (.int 2147483563))) (.c (.int 69069))) (.bin .mul (.c (.int 104723)) (.bin .add (.v 1) (.c (.int 1))))) (.c (.int 2147483563)))
@[reducible] noncomputable def S5:Ev.S:=.set 3 (.bin .mod (.bin .add (.bin .mul (.v 3) (.v 3)) (.bin .fdiv (.v 3) (.c (.int 3)))) (.c (.int 2147483399)))
@[reducible] noncomputable def S6:Ev.S:=.ret (.bin .mod (.bin .fdiv (.bin .mod (.bin .add (.bin .mul (.v 3) (.v 3)) (.bin .fdiv (.v 3) (.c (.int 7)))) (.c (.int 2147483647))) (.c (.int 11))) (.v 2))
@[reducible] noncomputable def Qk:Ev.Fn:=⟨3,4,(.cons SY (.cons S5 (.cons S6 .nil)))⟩
@[reducible] noncomputable def S7:Ev.S:=.ret (.me .join (.c (.str [])) (.cons (.comp (.ix (.c (.str [97,98,99,32])) (.cl 15 (.cons (.v 0) (.cons (.bin .add (.bin .add (.v 1) (.c (.int 1))) (.v 3)) (.cons (.c (.int 4)) .nil))))) (.one 3) (.iU (.cons (.cl 15 (.cons (.v 0) (.cons (.v 1) (.cons (.bin .add (.v 2) (.c (.int 1))) .nil)))) .nil)) .no) .nil))
@[reducible] noncomputable def Ql:Ev.Fn:=⟨3,4,(.cons S7 .nil)⟩
@[reducible] noncomputable def S8:Ev.S:=.set 3 (.tup .nil)
@[reducible] noncomputable def S9:Ev.Ss:=(.cons (.iff (.cmp .eq (.cl 15 (.cons (.v 0) (.cons (.bin .add (.v 1) (.bin .mul (.c (.int 4)) (.v 4))) (.cons (.c (.int 4)) .nil)))) (.c (.int 0))) (.cons (.set 5 (.bin .mul (.ix (.c (.str [97,98,122])) (.cl 15 (.cons (.v 0) (.cons (.bin .add (.bin .add (.v 1) (.bin .mul (.c (.int 4)) (.v 4))) (.c (.int 1))) (.cons (.c (.int 3)) .nil))))) (.bin .add (.c (.int 1)) (.cl 15 (.cons (.v 0) (.cons (.bin .add (.bin .add (.v 1) (.bin .mul (.c (.int 4)) (.v 4))) (.c (.int 2))) (.cons (.c (.int 2)) .nil))))))) (.cons (.set 3 (.bin .add (.v 3) (.tup (.cons (.tup (.cons (.c (.str [112,117,116])) (.cons (.v 5) .nil))) .nil)))) .nil)) .nil) (.cons (.iff (.cmp .lt (.v 4) (.bi .len (.cons (.v 2) .nil))) (.cons (.set 6 (.cmp .gt (.cl 15 (.cons (.v 0) (.cons (.bin .add (.bin .add (.v 1) (.bin .mul (.c (.int 4)) (.v 4))) (.c (.int 3))) (.cons (.c (.int 3)) .nil)))) (.c (.int 0)))) (.cons (.set 3 (.bin .add (.v 3) (.tup (.cons (.iX (.v 6) (.tup (.cons (.c (.str [107,101,101,112])) (.cons (.c (.int 1)) .nil))) (.tup (.cons (.c (.str [100,114,111,112])) (.cons (.ix (.v 2) (.v 4)) .nil)))) .nil)))) .nil)) .nil) .nil))
@[reducible] noncomputable def Tc:Ev.S:=.for (.one 4) (.iU (.cons (.bin .add (.bi .len (.cons (.v 2) .nil)) (.c (.int 1))) .nil)) S9
@[reducible] noncomputable def Td:Ev.S:=.ret (.v 3)
@[reducible] noncomputable def Qm:Ev.Fn:=⟨3,7,(.cons S8 (.cons Tc (.cons Td .nil)))⟩
@[reducible] noncomputable def Te:Ev.S:=.set 1 (.lst .nil)
@[reducible] noncomputable def Tf:Ev.S:=.set 2 (.lst (.cons (.c (.str [])) .nil))
@[reducible] noncomputable def Tg:Ev.S:=.set 3 (.c (.str []))
@[reducible] noncomputable def Th:Ev.Ss:=(.cons (.iff (.cmp .eq (.v 4) (.c (.str [112,117,116]))) (.cons (.set 3 (.bin .add (.v 3) (.v 5))) .nil) (.cons (.iff (.cmp .eq (.v 4) (.c (.str [100,114,111,112]))) (.cons (.set 1 (.bin .add (.v 1) (.gU (.seq (.v 5))))) (.cons (.set 2 (.fh (.v 2) (.bin .mul (.lst (.cons (.c (.str [])) .nil)) (.bi .len (.cons (.v 5) .nil))))) .nil)) (.cons (.exp (.me .kq (.v 2) (.cons (.bin .add (.ix (.v 2) (.neg (.c (.int 1)))) (.v 3)) (.cons (.neg (.c (.int 1))) .nil)))) (.cons (.set 3 (.c (.str []))) (.cons (.set 6 (.iX (.cmp .eq (.v 4) (.c (.str [107,101,101,112]))) (.v 5) (.c (.int 0)))) (.cons (.set 1 (.bin .add (.v 1) (.bin .mul (.lst (.cons (.c (.str [])) .nil)) (.v 6)))) (.cons (.set 2 (.fh (.v 2) (.bin .mul (.lst (.cons (.c (.str [])) .nil)) (.v 6)))) .nil)))))) .nil)) .nil)
@[reducible] noncomputable def Ti:Ev.S:=.for (.many [4,5]) (.seq (.bin .add (.v 0) (.tup (.cons (.tup (.cons (.c (.str [101,110,100])) (.cons (.c (.str [])) .nil))) .nil)))) Th
@[reducible] noncomputable def Tj:Ev.S:=.ret (.tup (.cons (.v 1) (.cons (.v 2) .nil)))
@[reducible] noncomputable def Qn:Ev.Fn:=⟨1,7,(.cons Te (.cons Tf (.cons Tg (.cons Ti (.cons Tj .nil)))))⟩
@[reducible] noncomputable def To:Ev.S:=.iff (.cmp .eq (.v 0) (.c (.int 0))) (.cons (.tr 9 4 (.cons (.v 1) (.cons (.v 2) (.cons (.v 3) .nil)))) .nil) (.cons (.iff (.cmp .eq (.v 0) (.c (.int 1))) (.cons (.tr 10 4 (.cons (.v 1) (.cons (.v 2) (.cons (.v 3) .nil)))) .nil) (.cons (.tr 11 4 (.cons (.v 1) (.cons (.v 2) .nil))) .nil)) .nil)
@[reducible] noncomputable def sG:Ev.Fn:=⟨4,5,(.cons To .nil)⟩
@[reducible] noncomputable def Tp:Ev.S:=.iA [1,2] (.cl 18 (.cons (.v 0) .nil))
@[reducible] noncomputable def Tt:Ev.S:=.set 3 (.lst .nil)
@[reducible] noncomputable def Tu:Ev.S:=.set 4 (.c (.int 0))
@[reducible] noncomputable def Tv:Ev.Ss:=(.cons (.exp (.me .append (.v 3) (.cons (.tup (.cons (.v 4) (.cons (.bin .add (.v 4) (.bi .len (.cons (.v 6) .nil))) .nil))) .nil))) (.cons (.set 4 (.bin .add (.bin .add (.v 4) (.bi .len (.cons (.v 6) .nil))) (.bi .lE (.cons (.an (.cmp .lt (.v 5) (.bi .len (.cons (.v 1) .nil))) (.cmp .eq (.ix (.v 1) (.v 5)) (.c (.str [])))) .nil)))) .nil))
@[reducible] noncomputable def Tw:Ev.S:=.for (.many [5,6]) (.enum (.v 2)) Tv
@[reducible] noncomputable def Tz:Ev.S:=.ret (.v 3)
@[reducible] noncomputable def Qo:Ev.Fn:=⟨1,7,(.cons Tp (.cons Tt (.cons Tu (.cons Tw (.cons Tz .nil)))))⟩
@[reducible] noncomputable def TF:Ev.S:=.set 1 (.cl 16 (.cons (.v 0) (.cons (.c (.int 0)) (.cons (.c (.int 5)) .nil))))
@[reducible] noncomputable def TH:Ev.S:=.set 2 (.cl 17 (.cons (.v 0) (.cons (.c (.int 10)) (.cons (.v 1) .nil))))
@[reducible] noncomputable def TJ:Ev.S:=.iA [3,4] (.cl 18 (.cons (.v 2) .nil))
@[reducible] noncomputable def TL:Ev.S:=.set 5 (.lst .nil)
@[reducible] noncomputable def TM:Ev.S:=.set 6 (.cl 20 (.cons (.v 2) .nil))
@[reducible] noncomputable def BV:Ev.Ss:=(.cons (.iff (.cmp .ne (.tup (.cons (.cl 19 (.cons (.c (.int 0)) (.cons (.v 2) (.cons (.v 7) (.cons (.c (.str [97,104,101,97,100])) .nil))))) (.cons (.cl 19 (.cons (.c (.int 0)) (.cons (.v 2) (.cons (.v 7) (.cons (.c (.str [98,101,104,105,110,100])) .nil))))) .nil))) (.v 8)) (.cons (.ret (.c (.bl false))) .nil) .nil) (.cons (.set 9 (.tup (.cons (.c (.str [114,101,102,117,115,101,100])) (.cons (.c (.int 2)) .nil)))) (.cons (.iff (.cmp .lt (.v 7) (.bi .len (.cons (.v 1) .nil))) (.cons (.set 9 (.iX (.cmp .eq (.ix (.v 3) (.v 7)) (.c (.str []))) (.ix (.v 8) (.c (.int 1))) (.c (.aU)))) .nil) .nil) (.cons (.iff (.cmp .ne (.cl 19 (.cons (.c (.int 2)) (.cons (.v 2) (.cons (.v 7) (.cons (.c (.aU)) .nil))))) (.v 9)) (.cons (.ret (.c (.bl false))) .nil) .nil) .nil))))
@[reducible] noncomputable def TN:Ev.S:=.for (.many [7,8]) (.enum (.v 6)) BV
@[reducible] noncomputable def Ja:Ev.S:=.set 10 (.jT [([107,101,101,112],[107,101,101,112]),([112,117,116],[100,114,111,112]),([100,114,111,112],[112,117,116])])
@[reducible] noncomputable def BW:Ev.Ss:=(.cons (.iff (.cmp .ne (.tup (.cons (.cl 19 (.cons (.c (.int 1)) (.cons (.v 2) (.cons (.v 7) (.cons (.c (.str [97,104,101,97,100])) .nil))))) (.cons (.cl 19 (.cons (.c (.int 1)) (.cons (.v 2) (.cons (.v 7) (.cons (.c (.str [98,101,104,105,110,100])) .nil))))) .nil))) (.v 8)) (.cons (.ret (.c (.bl false))) .nil) .nil) .nil)
@[reducible] noncomputable def Jb:Ev.S:=.for (.many [7,8]) (.enum (.cl 20 (.cons (.gy (.comp (.tup (.cons (.ku (.v 10) (.v 14)) (.cons (.v 15) .nil))) (.many [14,15]) (.seq (.v 2)) .no)) .nil))) BW
@[reducible] noncomputable def Jc:Ev.S:=.set 11 (.c (.int 0))
@[reducible] noncomputable def BX:Ev.Ss:=(.cons (.iff (.orr (.cmp .eq (.v 7) (.bi .len (.cons (.v 1) .nil))) (.cmp .eq (.ix (.v 3) (.v 7)) (.c (.str [])))) (.cons (.iff (.orr (.cmp .lt (.v 11) (.v 7)) (.cmp .ne (.ix (.v 4) (.v 7)) (.c (.str [])))) (.cons (.exp (.me .append (.v 5) (.cons (.tup (.cons (.v 11) (.cons (.me .join (.c (.str [])) (.cons (.sl (.v 3) (.yes (.v 11)) (.yes (.v 7))) .nil)) (.cons (.ix (.v 4) (.v 7)) .nil)))) .nil))) .nil) .nil) (.cons (.set 11 (.bin .add (.v 7) (.c (.int 1)))) .nil)) .nil) .nil)
@[reducible] noncomputable def Jd:Ev.S:=.for (.one 7) (.iU (.cons (.bin .add (.bi .len (.cons (.v 1) .nil)) (.c (.int 1))) .nil)) BX
@[reducible] noncomputable def yi:Ev.S:=.iff (.orr (.cmp .ne (.cl 12 (.cons (.v 2) .nil)) (.v 5)) (.cmp .ne (.cl 13 (.cons (.bi .len (.cons (.v 1) .nil)) (.cons (.v 5) .nil))) (.cl 3 (.cons (.v 2) .nil)))) (.cons (.ret (.c (.bl false))) .nil) .nil
@[reducible] noncomputable def yj:Ev.S:=.iff (.cmp .ne (.cl 12 (.cons (.v 2) .nil)) (.v 5)) (.cons (.ret (.c (.bl false))) .nil) .nil
@[reducible] noncomputable def Je:Ev.Ss:=(.cons (.iff (.cmp .ne (.cl 19 (.cons (.c (.int 0)) (.cons (.v 2) (.cons (.v 12) (.cons (.c (.str [97,104,101,97,100])) .nil))))) (.tup (.cons (.c (.str [114,101,102,117,115,101,100])) (.cons (.c (.int 2)) .nil)))) (.cons (.ret (.c (.bl false))) .nil) .nil) (.cons (.iff (.cmp .ne (.cl 19 (.cons (.c (.int 2)) (.cons (.v 2) (.cons (.v 12) (.cons (.c (.aU)) .nil))))) (.tup (.cons (.c (.str [114,101,102,117,115,101,100])) (.cons (.c (.int 2)) .nil)))) (.cons (.ret (.c (.bl false))) .nil) .nil) .nil))
@[reducible] noncomputable def yk:Ev.S:=.for (.one 12) (.seq (.tup (.cons (.neg (.c (.int 1))) (.cons (.bin .add (.bi .len (.cons (.v 1) .nil)) (.c (.int 1))) .nil)))) Je
@[reducible] noncomputable def yl:Ev.S:=.set 13 (.lst (.cons (.cl 19 (.cons (.c (.int 1)) (.cons (.v 2) (.cons (.neg (.c (.int 1))) (.cons (.c (.str [97,104,101,97,100])) .nil))))) (.cons (.cl 19 (.cons (.c (.int 1)) (.cons (.v 2) (.cons (.bin .add (.ix (.ix (.v 6) (.neg (.c (.int 1)))) (.c (.int 1))) (.c (.int 1))) (.cons (.c (.str [98,101,104,105,110,100])) .nil))))) .nil)))
@[reducible] noncomputable def ym:Ev.S:=.ret (.cmp .eq (.v 13) (.bin .mul (.lst (.cons (.tup (.cons (.c (.str [114,101,102,117,115,101,100])) (.cons (.c (.int 2)) .nil))) .nil)) (.c (.int 2))))
@[reducible] noncomputable def Ez:Ev.Fn:=⟨1,16,(.cons TF (.cons TH (.cons TJ (.cons TL (.cons TM (.cons TN (.cons Ja (.cons Jb (.cons Jc (.cons Jd (.cons yi (.cons yj (.cons yk (.cons yl (.cons ym .nil)))))))))))))))⟩
noncomputable def prog:List Ev.Fn:=[f0,f1,f2,f3,f4,f5,f6,f7,f8,f9,uN,zy,Dl,Qi,Qj,Qk,Ql,Qm,Qn,sG,Qo,Ez]
end Lw
namespace Lw
open PySem PySem.Spec PyProof.Rows L2 Sm
open Ev (D O Hh Fr R aL E Es Eo T S Ss Fl Src bw bq TY BI ME)
noncomputable def top(i:Nat):Stmt:=PySem.Challenge.pw_pastways_k30_places.main.body.getD i (.Pass ⟨0,0,0,0⟩)
abbrev i0 (a:Nat->Addr) (d:Nat->FuncData):FI:=⟨"size",a 0,d 0,["part"]⟩
abbrev i1 (a:Nat->Addr) (d:Nat->FuncData):FI:=⟨"before",a 1,d 1,["change"]⟩
abbrev i2 (a:Nat->Addr) (d:Nat->FuncData):FI:=⟨"after",a 2,d 2,["change"]⟩
abbrev i3 (a:Nat->Addr) (d:Nat->FuncData):FI:=⟨"form",a 3,d 3,["change"]⟩
abbrev i4 (a:Nat->Addr) (d:Nat->FuncData):FI:=⟨"stretch",a 4,d 4,["kept","gone","new"]⟩
abbrev i5 (a:Nat->Addr) (d:Nat->FuncData):FI:=⟨"undone",a 5,d 5,["change"]⟩
abbrev i6 (a:Nat->Addr) (d:Nat->FuncData):FI:=⟨"taken",a 6,d 6,["parts","many"]⟩
abbrev i7 (a:Nat->Addr) (d:Nat->FuncData):FI:=⟨"parted",a 7,d 7,["part","many"]⟩
abbrev i8 (a:Nat->Addr) (d:Nat->FuncData):FI:=⟨"cut",a 8,d 8,["change","place"]⟩
abbrev i9 (a:Nat->Addr) (d:Nat->FuncData):FI:=⟨"place_after",a 9,d 9,["change","place","side"]⟩
abbrev EA (a:Nat->Addr) (d:Nat->FuncData):FI:=⟨"place_before",a 10,d 10,["change","place","side"]⟩
abbrev EB (a:Nat->Addr) (d:Nat->FuncData):FI:=⟨"sign_after",a 11,d 11,["change","place"]⟩
abbrev i12 (a:Nat->Addr) (d:Nat->FuncData):FI:=⟨"touched",a 12,d 12,["change"]⟩
abbrev Qp (a:Nat->Addr) (d:Nat->FuncData):FI:=⟨"of_touched",a 13,d 13,["many","rows"]⟩
abbrev Qq (a:Nat->Addr) (d:Nat->FuncData):FI:=⟨"_law_cell",a 14,d 14,["_law_script","_law_k"]⟩
abbrev Qs (a:Nat->Addr) (d:Nat->FuncData):FI:=⟨"_law_drawn",a 15,d 15,["_law_script","_law_k","_law_many"]⟩
abbrev Qt (a:Nat->Addr) (d:Nat->FuncData):FI:=⟨"_law_text",a 16,d 16,["_law_script","_law_at","_law_most"]⟩
abbrev Qu (a:Nat->Addr) (d:Nat->FuncData):FI:=⟨"_law_change",a 17,d 17,["_law_script","_law_at","_law_text_here"]⟩
abbrev Qv (a:Nat->Addr) (d:Nat->FuncData):FI:=⟨"_law_gaps",a 18,d 18,["_law_change_here"]⟩
abbrev UL (a:Nat->Addr) (d:Nat->FuncData):FI:=⟨"_law_told",a 19,d 19,["_law_way","_law_change_here","_law_place","_law_side"]⟩
abbrev Qw (a:Nat->Addr) (d:Nat->FuncData):FI:=⟨"_law_comes",a 20,d 20,["_law_change_here"]⟩
abbrev Jf (a:Nat->Addr) (d:Nat->FuncData):FI:=⟨"law",a 21,d 21,["_law_script"]⟩
noncomputable def oN:List Str:=["ValueError","enumerate","int","isinstance","len","list","min","range","reversed","sum","tuple"]
def yL:("enumerate" : Str)∈oN:=by decide +kernel
def TQ:("int" : Str)∈oN:=by decide +kernel
def TR:("len" : Str)∈oN:=by decide +kernel
def EC:("list" : Str)∈oN:=by decide +kernel
def TU:("min" : Str)∈oN:=by decide +kernel
def LU:("range" : Str)∈oN:=by decide +kernel
def sH:("reversed" : Str)∈oN:=by decide +kernel
def TV:("sum" : Str)∈oN:=by decide +kernel
def An:("tuple" : Str)∈oN:=by decide +kernel
noncomputable def tb (a:Nat->Addr) (d:Nat->FuncData):Tb:=⟨prog,100000,[i0 a d,i1 a d,i2 a d,i3 a d,i4 a d,i5 a d,i6 a d,i7 a d,i8 a d,i9 a d,EA a d,EB a d,i12 a d,Qp a d,Qq a d,Qs a d,Qt a d,Qu a d,Qv a d,UL a d,Qw a d,Jf a d],oN,[("__name__",.str [108,97,119,95,112,97,115,116,119,97,121,115,95,107,51,48,95,112,108,97,99,101,115])],[("TURNED",[(.str [107,101,101,112],.str [107,101,101,112]),(.str [112,117,116],.str [100,114,111,112]),(.str [100,114,111,112],.str [112,117,116])])]⟩
section
variable{a:Nat->Addr}{d:Nat->FuncData}{n:Nat}
abbrev n0:List Str:=["part"]
def s0:bH n0 ["part"] (aB (top 1)):=⟨rfl,rfl,rfl,by decide +kernel,rfl,by decide +kernel,by decide +kernel⟩
abbrev n1:List Str:=["change"]
def s1:bH n1 ["change"] (aB (top 2)):=⟨rfl,rfl,rfl,by decide +kernel,rfl,by decide +kernel,by decide +kernel⟩
abbrev n2:List Str:=["change"]
def s2:bH n2 ["change"] (aB (top 3)):=⟨rfl,rfl,rfl,by decide +kernel,rfl,by decide +kernel,by decide +kernel⟩
abbrev n3:List Str:=["change","parts","kept","gone","new","word","what"]
def s3:bH n3 ["change"] (aB (top 4)):=⟨rfl,rfl,rfl,by decide +kernel,rfl,by decide +kernel,by decide +kernel⟩
abbrev n4:List Str:=["kept","gone","new","parts"]
def s4:bH n4 ["kept","gone","new"] (aB (top 5)):=⟨rfl,rfl,rfl,by decide +kernel,rfl,by decide +kernel,by decide +kernel⟩
abbrev n5:List Str:=["change"]
def s5:bH n5 ["change"] (aB (top 14)):=⟨rfl,rfl,rfl,by decide +kernel,rfl,by decide +kernel,by decide +kernel⟩
abbrev n6:List Str:=["parts","many","halves"]
def s6:bH n6 ["parts","many"] (aB (top 15)):=⟨rfl,rfl,rfl,by decide +kernel,rfl,by decide +kernel,by decide +kernel⟩
abbrev n7:List Str:=["part","many","word"]
def s7:bH n7 ["part","many"] (aB (top 16)):=⟨rfl,rfl,rfl,by decide +kernel,rfl,by decide +kernel,by decide +kernel⟩
abbrev n8:List Str:=["change","place","parts","first","left","many"]
def s8:bH n8 ["change","place"] (aB (top 18)):=⟨rfl,rfl,rfl,by decide +kernel,rfl,by decide +kernel,by decide +kernel⟩
abbrev n9:List Str:=["change","place","side","first"]
def s9:bH n9 ["change","place","side"] (aB (top 20)):=⟨rfl,rfl,rfl,by decide +kernel,rfl,by decide +kernel,by decide +kernel⟩
abbrev ED:List Str:=["change","place","side"]
def Nv:bH ED ["change","place","side"] (aB (top 21)):=⟨rfl,rfl,rfl,by decide +kernel,rfl,by decide +kernel,by decide +kernel⟩
abbrev EE:List Str:=["change","place","halves"]
def CM:bH EE ["change","place"] (aB (top 22)):=⟨rfl,rfl,rfl,by decide +kernel,rfl,by decide +kernel,by decide +kernel⟩
abbrev Qx:List Str:=["change","rows","place","gone","new","word","what"]
def s12:bH Qx ["change"] (aB (top 23)):=⟨rfl,rfl,rfl,by decide +kernel,rfl,by decide +kernel,by decide +kernel⟩
abbrev Qy:List Str:=["many","rows","parts","gone_through","place","gone","new"]
def Yy:bH Qy ["many","rows"] (aB (top 24)):=⟨rfl,rfl,rfl,by decide +kernel,rfl,by decide +kernel,by decide +kernel⟩
abbrev Qz:List Str:=["_law_script","_law_k"]
def Yz:bH Qz ["_law_script","_law_k"] (aB (top 26)):=⟨rfl,rfl,rfl,by decide +kernel,rfl,by decide +kernel,by decide +kernel⟩
abbrev QA:List Str:=["_law_script","_law_k","_law_many","_law_cell_here"]
def YA:bH QA ["_law_script","_law_k","_law_many"] (aB (top 27)):=⟨rfl,rfl,rfl,by decide +kernel,rfl,by decide +kernel,by decide +kernel⟩
abbrev QB:List Str:=["_law_script","_law_at","_law_most"]
def YB:bH QB ["_law_script","_law_at","_law_most"] (aB (top 28)):=⟨rfl,rfl,rfl,by decide +kernel,rfl,by decide +kernel,by decide +kernel⟩
abbrev QC:List Str:=["_law_script","_law_at","_law_text_here","_law_found","_law_k","_law_new","_law_is_kept"]
def YC:bH QC ["_law_script","_law_at","_law_text_here"] (aB (top 29)):=⟨rfl,rfl,rfl,by decide +kernel,rfl,by decide +kernel,by decide +kernel⟩
abbrev QD:List Str:=["_law_change_here","_law_asks","_law_puts","_law_late","_law_word","_law_what","_law_many"]
def YD:bH QD ["_law_change_here"] (aB (top 30)):=⟨rfl,rfl,rfl,by decide +kernel,rfl,by decide +kernel,by decide +kernel⟩
abbrev UM:List Str:=["_law_way","_law_change_here","_law_place","_law_side","_law_e"]
def YE:bH UM ["_law_way","_law_change_here","_law_place","_law_side"] (aB (top 33)):=⟨rfl,rfl,rfl,by decide +kernel,rfl,by decide +kernel,by decide +kernel⟩
abbrev QE:List Str:=["_law_change_here","_law_asks","_law_puts","_law_found","_law_ahead","_law_at","_law_new"]
def YF:bH QE ["_law_change_here"] (aB (top 34)):=⟨rfl,rfl,rfl,by decide +kernel,rfl,by decide +kernel,by decide +kernel⟩
abbrev QF:List Str:=["_law_script","_law_text_here","_law_change_here","_law_asks","_law_puts","_law_rows","_law_comes_here","_law_at","_law_both_here","_law_due","_law_words","_law_start","_law_place","_law_told_here"]
def YG:bH QF ["_law_script"] (aB (top 35)):=⟨rfl,rfl,rfl,by decide +kernel,rfl,by decide +kernel,by decide +kernel⟩
noncomputable def dB:List (Str×Nat):=[("NoFit",0),("Clash",1),("NoPlace",2),("NoNumber",3)]
noncomputable def rz:List Nat:=[8,9,10,11]
noncomputable def su:List Nat:=[8,9,10,11]
def hz:Ev.pU rz 0 prog=true:=by decide +kernel
noncomputable def YM(s:Stmt):List Expr:=match cG s with
 |[.Try [.Return (some (.Call _ xs _ _)) _] _ _ _ _]=>xs
 |_=>[]
noncomputable def WH(s:Stmt):List Stmt:=match cG s with
 |[.Try xs _ _ _ _]=>xs
 |_=>[]
set_option maxHeartbeats 0 in
def dP{cl:Nat->Addr}:allB (tb a d) n [(f0.body,top 1,n0),(f1.body,top 2,n1),(f2.body,top 3,n2),(f3.body,top 4,n3),(f4.body,top 5,n4),(f5.body,top 14,n5),(f6.body,top 15,n6),(f7.body,top 16,n7),(f8.body,top 18,n8),(f9.body,top 20,n9),(uN.body,top 21,ED),(zy.body,top 22,EE),(Dl.body,top 23,Qx),(Qi.body,top 24,Qy),(Qj.body,top 26,Qz),(Qk.body,top 27,QA),(Ql.body,top 28,QB),(Qm.body,top 29,QC),(Qn.body,top 30,QD),(Qo.body,top 34,QE),(Ez.body,top 35,QF)]/\lJ (tb a d) cl dB rz su n (aB (top 18)) n8 true (List.range n8.length) f8.body (cG (top 18))/\lJ (tb a d) cl dB rz su n (aB (top 20)) n9 true (List.range n9.length) f9.body (cG (top 20))/\lJ (tb a d) cl dB rz su n (aB (top 21)) ED true (List.range ED.length) uN.body (cG (top 21))/\lJ (tb a d) cl dB rz su n (aB (top 22)) EE true (List.range EE.length) zy.body (cG (top 22))/\TB (tb a d) cl 4 su n (aB (top 33)) UM sG.body (WH (top 33)):=by
 refine⟨⟨?_,?_,?_,?_,?_,?_,?_,?_,?_,?_,?_,?_,?_,?_,?_,?_,?_,?_,?_,?_,?_,trivial⟩,gA ?_ (zw ?_ (by decide +kernel) (gA ?_ (zx) (iK (by decide +kernel))) (iK (by decide +kernel))) (iK (by decide +kernel)),gA ?_ (zv (by decide +kernel) (RQ (Bf (by decide +kernel) (by decide +kernel) rfl rfl ?_ (wL (by decide +kernel))))) (iK (by decide +kernel)),gA ?_ (KD (Bf (by decide +kernel) (by decide +kernel) rfl rfl ?_ (wL (by decide +kernel)))) (iK (by decide +kernel)),gA ?_ (zv (by decide +kernel) (Bf (by decide +kernel) (by decide +kernel) rfl rfl ?_ (wL (by decide +kernel)))) (gA ?_ (zw ?_ (by decide +kernel) (gA ?_ (zx) (iK (by decide +kernel))) (iK (by decide +kernel))) (iK (by decide +kernel))),Oq ?_ (Dp (qt (by show prog.length<=1000;decide) rfl rfl (by decide +kernel) ?_ (by decide +kernel))) (Dp (KH ?_ (qt (by show prog.length<=1000;decide) rfl rfl (by decide +kernel) ?_ (by decide +kernel)) (qt (by show prog.length<=1000;decide) rfl rfl (by decide +kernel) ?_ (by decide +kernel))))⟩;all_goals try dsimp only
 all_goals repeat (first
  | ((with_reducible show JE _ _ _ _ _ _ _ (.BoolOp _ [_] _));refine MX ?_)
  | ((with_reducible show JE _ _ _ _ _ _ (.v _) _);exact jv (by decide +kernel))
  | ((with_reducible show JA _ _ _ _ _ _ (.cons _ _) _);refine JU ?_ ?_)
  | ((with_reducible show nq _ _ _ _ _ _ (.cons _ _) _);refine Fe ?_ ?_)
  | ((with_reducible show JA _ _ _ _ _ _ .nil _);refine MT)
  | ((with_reducible show JE _ _ _ _ _ _ (.c (.int _)) _);refine MQ)
  | ((with_reducible show nq _ _ _ _ _ _ .nil _);refine J1)
  | ((with_reducible show JE _ _ _ _ _ _ (.c (.str _)) _);refine MS)
  | ((with_reducible show JE _ _ _ _ _ _ (.cl _ _) _);refine Uq (by decide +kernel) rfl rfl ?_)
  | ((with_reducible show JE _ _ _ _ _ _ (.bin .add _ _) _);refine nQ (λX g=>ND) ?_ ?_)
  | ((with_reducible show JE _ _ _ _ _ _ (.ix _ _) _);refine RA (λX g=>RK) ?_ ?_)
  | ((with_reducible show JS _ _ _ _ _ _ (.iff _ _ _) _);refine Nj ?_ ?_ ?_)
  | ((with_reducible show JS _ _ _ _ _ _ (.ret _) _);refine Ni ?_)
  | ((with_reducible show JE _ _ _ _ _ _ (.tup _) _);refine MU ?_)
  | ((with_reducible show uH _ _ _ _ _ _ (_ :: _) _);refine Xy (by decide +kernel) ?_)
  | ((with_reducible show JT _ _ _ _ _ _ (.cmp .eq _ _) _);refine q8 (λX g=>HJ g) ?_ ?_ (jF _))
  | ((with_reducible show JT _ _ _ _ _ _ (.cmp .ne _ _) _);refine q8 (λX g=>RJ g) ?_ ?_ (jF _))
  | ((with_reducible show JE _ _ _ _ _ _ (.bi .len _) _);refine AU (x:="len") (id:="len") (λX g=>NQ) ?_ (hb:=TR) (hv:=by decide +kernel))
  | ((with_reducible show JE _ _ _ _ _ _ (.lst _) _);refine MV ?_)
  | ((with_reducible show JE _ _ _ _ _ _ (.bin .mul _ _) _);refine nQ (λX g=>NO) ?_ ?_)
  | ((with_reducible show JS _ _ _ _ _ _ (.exp _) _);refine Nh ?_)
  | ((with_reducible show JG _ _ _ _ _ _ (.many _) _);refine J0 ?_)
  | ((with_reducible show uH _ _ _ _ _ _ [] _);refine JZ)
  | ((with_reducible show JS _ _ _ _ _ _ (.for _ _ _) _);refine Nl ?_ ?_ ?_)
  | ((with_reducible show JE _ _ _ _ _ _ (.neg _) _);refine MW ?_)
  | ((with_reducible show JI _ _ _ _ _ _ (.seq _) _ _);refine Nc ?_)
  | ((with_reducible show JE _ _ _ _ _ _ (.me .append _ (.cons _ _)) _);refine AV aaZ PySem.F.slot_list_append PySem.F.type_list_append (λX g=>CW) rfl ?_ ?_)
  | ((with_reducible show JT _ _ _ _ _ _ (.orr _ _) _);refine VO ?_ ?_)
  | ((with_reducible show JW _ _ _ _ _ _ (.orr _ _) (.BoolOp _ (_ :: _ :: _) _));refine CA ?_ ?_)
  | ((with_reducible show JW _ _ _ _ _ _ _ (.BoolOp .Or [_] _));refine JV ?_)
  | ((with_reducible show JE _ _ _ _ _ _ (.c (.bl _)) _);refine Rx)
  | ((with_reducible show JG _ _ _ _ _ _ (.one _) _);exact Xx (by decide +kernel))
  | ((with_reducible show JE _ _ _ _ _ _ (.bin .mod _ _) _);refine nQ (λX g=>NG) ?_ ?_)
  | ((with_reducible show JE _ _ _ _ _ _ (.comp _ _ _ _) _);refine RN (by decide +kernel) (by decide +kernel) ?_ ?_ ?_ ?_)
  | ((with_reducible show JT _ _ _ _ _ _ (.cmp .gt _ _) _);refine q8 (λX g=>HL) ?_ ?_ (jF _))
  | ((with_reducible show JE _ _ _ _ _ _ (.gy _) _);refine NU ?_ (h1:=An))
  | ((with_reducible show JO _ _ _ _ _ _ (.yes _) _);refine M8 ?_)
  | ((with_reducible show JE _ _ _ _ _ _ (.me .extend _ (.cons _ _)) _);refine AV aaZ PySem.F.slot_list_extend PySem.F.type_list_extend (λX g=>CY) rfl ?_ ?_)
  | ((with_reducible show JE _ _ _ _ _ _ (.bin .sub _ _) _);refine nQ (λX g=>NF) ?_ ?_)
  | ((with_reducible show JE _ _ _ _ _ _ (.sl _ _ _) _);refine RC (λX g=>NN) ?_ ?_ ?_)
  | ((with_reducible show JT _ _ _ _ _ _ (.cmp .lt _ _) _);refine q8 (λX g=>HK) ?_ ?_ (jF _))
  | ((with_reducible show JE _ _ _ _ _ _ (.c .aU) _);refine MR)
  | ((with_reducible show JE _ _ _ _ _ _ (.bin .fdiv _ _) _);refine nQ (λX g=>Kc) ?_ ?_)
  | ((with_reducible show JC _ _ _ _ _ _ .no _);refine RG)
  | ((with_reducible show JO _ _ _ _ _ _ .no _);refine RB)
  | ((with_reducible show JT _ _ _ _ _ _ (.an _ _) _);refine VN ?_ ?_)
  | ((with_reducible show JW _ _ _ _ _ _ (.an _ _) (.BoolOp _ (_ :: _ :: _) _));refine Ht ?_ ?_)
  | ((with_reducible show JI _ _ _ _ _ _ (.iU (.cons _ .nil)) _ _);refine JY ?_ (hb:=LU))
  | ((with_reducible show JE _ _ _ _ _ _ (.iX _ _ _) _);refine MY ?_ ?_ ?_)
  | ((with_reducible show JI _ _ _ _ _ _ (.enum _) _ _);refine Kq ?_ (Up:=yL))
  | ((with_reducible show JE _ _ _ _ _ _ (.bi .sum _) _);refine AU (x:="sum") (id:="sum") (λX g=>NP g) ?_ (hb:=TV) (hv:=by decide +kernel))
  | ((with_reducible show JC _ _ _ _ _ _ (.yes _) _);refine Nm ?_)
  | ((with_reducible show JE _ _ _ _ _ _ (.me .pop _ .nil) _);refine M9 aaZ PySem.F.slot_list_pop PySem.F.type_list_pop (λX g=>NS) rfl ?_)
  | ((with_reducible show JS _ _ _ _ _ _ (.eU _) _);refine NV)
  | ((with_reducible show JW _ _ _ _ _ _ _ (.BoolOp .And [_] _));refine M4 ?_)
  | ((with_reducible show JE _ _ _ _ _ _ (.me .join _ (.cons _ _)) _);refine AV PySem.F.plainAttrs_str PySem.F.slot_str_join PySem.F.type_str_join (λX g=>Kl) rfl ?_ ?_)
  | ((with_reducible show JE _ _ _ _ _ _ (.fh _ _) _);refine Ku ?_)
  | ((with_reducible show JS _ _ _ _ _ _ (.iA _ _) _);refine J2 ?_ ?_)
  | ((with_reducible show JE _ _ _ _ _ _ (.cmp .eq _ _) _);refine vX (λX g=>HJ g) ?_ ?_ (jF _))
  | ((with_reducible show JE _ _ _ _ _ _ (.gY _ _) _);refine Kn (x:="TURNED") (.head _) ?_)
  | ((with_reducible show JE _ _ _ _ _ _ (.gU (.rev _)) _);refine Ko ?_ (h1:=EC) (hb:=sH))
  | ((with_reducible show JS _ _ _ _ _ _ (.jU _ _) _);refine Nk ?_ ?_)
  | ((with_reducible show JE _ _ _ _ _ _ (.bi .min _) _);refine AU (x:="min") (id:="min") (λX g=>NR g) ?_ (hb:=TU) (hv:=by decide +kernel))
  | ((with_reducible show JE _ _ _ _ _ _ (.jS _) _);refine N4 ?_ (h1:=An) (hb:=sH))
  | ((with_reducible show JT _ _ _ _ _ _ (.nt _) _);refine Rz ?_)
  | ((with_reducible show JE _ _ _ _ _ _ (.cmp .gt _ _) _);refine vX (λX g=>HL) ?_ ?_ (jF _))
  | ((with_reducible show JE _ _ _ _ _ _ (.gU (.seq _)) _);refine NT ?_ (h1:=EC))
  | ((with_reducible show JS _ _ _ _ _ _ (.exp (.me .kq _ _)) _);refine J3 ?_ ?_ ?_)
  | ((with_reducible show JE _ _ _ _ _ _ (.bi .lE _) _);refine RD (x:="int") (id:="int") (λX g=>Kh) ?_ (hb:=TQ) (hv:=by decide +kernel))
  | ((with_reducible show JE _ _ _ _ _ _ (.an _ _) (.BoolOp _ (_ :: _ :: _) _));refine Ry ?_ ?_)
  | ((with_reducible show JE _ _ _ _ _ _ (.cmp .lt _ _) _);refine vX (λX g=>HK) ?_ ?_ (jF _))
  | ((with_reducible show JE _ _ _ _ _ _ (.jT _) _);exact N9 (.cons (.cons (.cons .nil))))
  | ((with_reducible show JE _ _ _ _ _ _ (.ku _ _) _);refine Ob ?_ ?_)
  | ((with_reducible show JS _ _ _ _ _ _ (.set _ _) _);refine VM ?_ ?_;decide +kernel)
  | ((with_reducible show JT _ _ _ _ _ _ _ _);refine M6 ?_))
end
def kR{α:Type _}{l:List α}(h:l.length=1):∃a,l=[a]:=by
 rcases l with _|⟨a,_|⟨b,l⟩⟩<;>simp at h ⊢
def qL{α:Type _}{l:List α}(h:l.length=2):∃a b,l=[a,b]:=by
 rcases l with _|⟨a,l⟩
 .simp at h
 .obtain⟨b,rfl⟩:=kR (l:=l) (by simpa using h);exact⟨a,b,rfl⟩
def qM{α:Type _}{l:List α}(h:l.length=3):∃a b c,l=[a,b,c]:=by
 rcases l with _|⟨a,l⟩
 .simp at h
 .obtain⟨b,c,rfl⟩:=qL (l:=l) (by simpa using h);exact⟨a,b,c,rfl⟩
def WI{α:Type _}{l:List α}(h:l.length=4):∃a b c d,l=[a,b,c,d]:=by
 rcases l with _|⟨a,l⟩
 .simp at h
 .obtain⟨b,c,d,rfl⟩:=qM (l:=l) (by simpa using h);exact⟨a,b,c,d,rfl⟩
structure Fg(K:PySem.W.Frag)(x:Str)(i:Nat)(p:Addr)(d:FuncData):Prop where
 a:PySem.W.nsIn K mainGlobals x=some (some (.ref p))
 f:nL K x x (top i) p d
def Fg.t{K:PySem.W.Frag}{h:Heap}{mg:Str->Option Value}{x:Str}{i:Nat}{p:Addr}{d:FuncData}{ps:List Str}(F:Fg K x i p d)(X:K.In h)(G:h.Ns mainGlobals mg)(b:Binds K d ps []):mg x=some (.ref p)/\PySem.W.keepIn K (.ref p)=true/\Binds K d ps []:=⟨aaz X G F.a,F.f.kp,b⟩
def all_mk {l:PySem.W.OpenLaw}{w:World}{K:PySem.W.Frag}{h:Heap}{mg:Str->Option Value}{fa p0 p1 p2 p3 p4 p5 p6 p7 p8 p9 HU HV HW HY HZ Ia Ib Ic Ie Ig Ih Df:Addr}{d0 d1 d2 d3 d4 d5 d6 d7 d8 d9 UN UO UP UQ UR US UT UU UW UX UY QG:FuncData}(X:K.In h) (G:h.Ns mainGlobals mg) (YH:mg "law" = some (.ref fa))
  (F0:Fg K "size" 1 p0 d0)
  (F1:Fg K "before" 2 p1 d1)
  (F2:Fg K "after" 3 p2 d2)
  (F3:Fg K "form" 4 p3 d3)
  (F4:Fg K "stretch" 5 p4 d4)
  (F5:Fg K "undone" 14 p5 d5)
  (F6:Fg K "taken" 15 p6 d6)
  (F7:Fg K "parted" 16 p7 d7)
  (F8:Fg K "cut" 18 p8 d8)
  (F9:Fg K "place_after" 20 p9 d9)
  (Jg:Fg K "place_before" 21 HU UN)
  (Jh:Fg K "sign_after" 22 HV UO)
  (QH:Fg K "touched" 23 HW UP)
  (QI:Fg K "of_touched" 24 HY UQ)
  (QJ:Fg K "_law_cell" 26 HZ UR)
  (QK:Fg K "_law_drawn" 27 Ia US)
  (QL:Fg K "_law_text" 28 Ib UT)
  (QM:Fg K "_law_change" 29 Ic UU)
  (QN:Fg K "_law_gaps" 30 Ie UW)
  (QO:Fg K "_law_told" 33 Ig UX)
  (QS:Fg K "_law_comes" 34 Ih UY)
  (EF:Fg K "law" 35 Df QG)
  {pr Wc C0 C1 C2 C3:Addr} {dr:FuncData} (FR:Fg K "_law_refused" 32 pr dr) (xw:PySem.W.nsIn K mainGlobals "WayError" = some (some (.ref Wc)))
  (X0:wO K "NoFit" C0 Wc C0 C1 C2 C3 0)
  (X1:wO K "Clash" C1 Wc C0 C1 C2 C3 1)
  (X2:wO K "NoPlace" C2 Wc C0 C1 C2 C3 2)
  (X3:wO K "NoNumber" C3 Wc C0 C1 C2 C3 3)
  (z0:PySem.W.nsIn K mainGlobals "ValueError" = some none)
  (z1:PySem.W.nsIn K mainGlobals "enumerate" = some none)
  (z2:PySem.W.nsIn K mainGlobals "int" = some none)
  (z3:PySem.W.nsIn K mainGlobals "isinstance" = some none)
  (z4:PySem.W.nsIn K mainGlobals "len" = some none)
  (z5:PySem.W.nsIn K mainGlobals "list" = some none)
  (z6:PySem.W.nsIn K mainGlobals "min" = some none)
  (z7:PySem.W.nsIn K mainGlobals "range" = some none)
  (z8:PySem.W.nsIn K mainGlobals "reversed" = some none)
  (z9:PySem.W.nsIn K mainGlobals "sum" = some none)
  (UZ:PySem.W.nsIn K mainGlobals "tuple" = some none)
  {t0:Tok} (q0:PySem.W.nsIn K mainGlobals "__name__" = some (some (.str "law_pastways_k30_places" t0)))
  {Ji:Addr} (U0:PySem.W.nsIn K mainGlobals "TURNED" = some (some (.ref Ji))) (U1:PyProof.Rows.KTD.tabLook PyProof.Rows.KTD.flatLooks (λb=>K.lookup b) Ji [(aQ [107,101,101,112],PyData.str (aQ [107,101,101,112])),(aQ [112,117,116],PyData.str (aQ [100,114,111,112])),(aQ [100,114,111,112],PyData.str (aQ [112,117,116]))]=true) (U3:PyProof.Rows.KTD.hashesOf (λb=>K.lookup b) Ji=([(aQ [107,101,101,112],PyData.str (aQ [107,101,101,112])),(aQ [112,117,116],PyData.str (aQ [100,114,111,112])),(aQ [100,114,111,112],PyData.str (aQ [112,117,116]))]:List (Str×PyData)).map λp=>(PySem.strKind l.prog w).hash p.1)
  : ∃fd:FuncData,(∀(s:Shared) (v:Value),BindsTo s fd ⟨[v],[]⟩ [("_law_script",v)])/\∀base:Heap,K.In base->base.Ns mainGlobals mg->fM l.prog w K mg base jR 60 fa fd ["_law_script"] (nj K prog 100000 60 21):=by
 have e:=YH.symm.trans (aaz X G EF.a);have e2:Df=fa:=by injection e with e;injection e with e;exact e.symm
 subst e2
 let aa:Nat->Addr:=λk=>[p0,p1,p2,p3,p4,p5,p6,p7,p8,p9,HU,HV,HW,HY,HZ,Ia,Ib,Ic,Ie,Ig,Ih,Df].getD k p0
 let dd:Nat->FuncData:=λk=>[d0,d1,d2,d3,d4,d5,d6,d7,d8,d9,UN,UO,UP,UQ,UR,US,UT,UU,UW,UX,UY,QG].getD k d0
 have T:Top l.prog w K mg (tb aa dd):=by
  refine⟨λf i hi=>(show ∀i∈(tb aa dd).fi,mg i.name=some (.ref i.addr)/\PySem.W.keepIn K (.ref i.addr)=true/\Binds K i.fd i.ps []from ?_) i (aal hi),?_,?_,?_⟩
  .refine List.forall_mem_cons.mpr ⟨F0.t X G (F0.f.binds λ_ _ _ _ _ _ us hl=>by obtain⟨_,rfl⟩:=kR hl;rfl),?_⟩;refine List.forall_mem_cons.mpr ⟨F1.t X G (F1.f.binds λ_ _ _ _ _ _ us hl=>by obtain⟨_,rfl⟩:=kR hl;rfl),?_⟩;refine List.forall_mem_cons.mpr ⟨F2.t X G (F2.f.binds λ_ _ _ _ _ _ us hl=>by obtain⟨_,rfl⟩:=kR hl;rfl),?_⟩;refine List.forall_mem_cons.mpr ⟨F3.t X G (F3.f.binds λ_ _ _ _ _ _ us hl=>by obtain⟨_,rfl⟩:=kR hl;rfl),?_⟩;refine List.forall_mem_cons.mpr ⟨F4.t X G (F4.f.binds λ_ _ _ _ _ _ us hl=>by obtain⟨_,_,_,rfl⟩:=qM hl;rfl),?_⟩;refine List.forall_mem_cons.mpr ⟨F5.t X G (F5.f.binds λ_ _ _ _ _ _ us hl=>by obtain⟨_,rfl⟩:=kR hl;rfl),?_⟩;refine List.forall_mem_cons.mpr ⟨F6.t X G (F6.f.binds λ_ _ _ _ _ _ us hl=>by obtain⟨_,_,rfl⟩:=qL hl;rfl),?_⟩;refine List.forall_mem_cons.mpr ⟨F7.t X G (F7.f.binds λ_ _ _ _ _ _ us hl=>by obtain⟨_,_,rfl⟩:=qL hl;rfl),?_⟩;refine List.forall_mem_cons.mpr ⟨F8.t X G (F8.f.binds λ_ _ _ _ _ _ us hl=>by obtain⟨_,_,rfl⟩:=qL hl;rfl),?_⟩;refine List.forall_mem_cons.mpr ⟨F9.t X G (F9.f.binds λ_ _ _ _ _ _ us hl=>by obtain⟨_,_,_,rfl⟩:=qM hl;rfl),?_⟩;refine List.forall_mem_cons.mpr ⟨Jg.t X G (Jg.f.binds λ_ _ _ _ _ _ us hl=>by obtain⟨_,_,_,rfl⟩:=qM hl;rfl),?_⟩;refine List.forall_mem_cons.mpr ⟨Jh.t X G (Jh.f.binds λ_ _ _ _ _ _ us hl=>by obtain⟨_,_,rfl⟩:=qL hl;rfl),?_⟩;refine List.forall_mem_cons.mpr ⟨QH.t X G (QH.f.binds λ_ _ _ _ _ _ us hl=>by obtain⟨_,rfl⟩:=kR hl;rfl),?_⟩;refine List.forall_mem_cons.mpr ⟨QI.t X G (QI.f.binds λ_ _ _ _ _ _ us hl=>by obtain⟨_,_,rfl⟩:=qL hl;rfl),?_⟩;refine List.forall_mem_cons.mpr ⟨QJ.t X G (QJ.f.binds λ_ _ _ _ _ _ us hl=>by obtain⟨_,_,rfl⟩:=qL hl;rfl),?_⟩;refine List.forall_mem_cons.mpr ⟨QK.t X G (QK.f.binds λ_ _ _ _ _ _ us hl=>by obtain⟨_,_,_,rfl⟩:=qM hl;rfl),?_⟩;refine List.forall_mem_cons.mpr ⟨QL.t X G (QL.f.binds λ_ _ _ _ _ _ us hl=>by obtain⟨_,_,_,rfl⟩:=qM hl;rfl),?_⟩;refine List.forall_mem_cons.mpr ⟨QM.t X G (QM.f.binds λ_ _ _ _ _ _ us hl=>by obtain⟨_,_,_,rfl⟩:=qM hl;rfl),?_⟩;refine List.forall_mem_cons.mpr ⟨QN.t X G (QN.f.binds λ_ _ _ _ _ _ us hl=>by obtain⟨_,rfl⟩:=kR hl;rfl),?_⟩;refine List.forall_mem_cons.mpr ⟨QO.t X G (QO.f.binds λ_ _ _ _ _ _ us hl=>by obtain⟨_,_,_,_,rfl⟩:=WI hl;rfl),?_⟩;refine List.forall_mem_cons.mpr ⟨QS.t X G (QS.f.binds λ_ _ _ _ _ _ us hl=>by obtain⟨_,rfl⟩:=kR hl;rfl),?_⟩;refine List.forall_mem_cons.mpr ⟨EF.t X G (EF.f.binds λ_ _ _ _ _ _ us hl=>by obtain⟨_,rfl⟩:=kR hl;rfl),?_⟩;exact λ_ h=>nomatch h
  .exact(show ∀x∈oN,mg x=none from List.forall_mem_cons.mpr ⟨aao X G z0,List.forall_mem_cons.mpr ⟨aao X G z1,List.forall_mem_cons.mpr ⟨aao X G z2,List.forall_mem_cons.mpr ⟨aao X G z3,List.forall_mem_cons.mpr ⟨aao X G z4,List.forall_mem_cons.mpr ⟨aao X G z5,List.forall_mem_cons.mpr ⟨aao X G z6,List.forall_mem_cons.mpr ⟨aao X G z7,List.forall_mem_cons.mpr ⟨aao X G z8,List.forall_mem_cons.mpr ⟨aao X G z9,List.forall_mem_cons.mpr ⟨aao X G UZ,λ_ h=>nomatch h⟩⟩⟩⟩⟩⟩⟩⟩⟩⟩⟩)
  .exact λx d hx=>(show ∀y∈(tb aa dd).cs,∃v u,mg y.1=some u/\RelV v u/\y9 K y.2 v from List.forall_mem_cons.mpr ⟨⟨.str "law_pastways_k30_places",_,aaz X G q0,⟨_,rfl⟩,λ_ _=>⟨by decide +kernel,by decide⟩⟩,λ_ h=>nomatch h⟩) (x,d) hx
  .exact λx d hx=>(show ∀y∈(tb aa dd).dk,∃a,mg y.1=some (.ref a)/\∀h:Heap,K.In h->StrTab l.prog w h a (tabOf y.2)from List.forall_mem_cons.mpr ⟨⟨Ji,aaz X G U0,λh hK=>PySem.W.kt_tab_in l.prog w hK U1 (by decide +kernel) U3⟩,λ_ h=>nomatch h⟩) (x,d) hx
 refine⟨QG,λs v=>?_,λbase _ _=>?_⟩
 .obtain⟨oc,od,kV,doc,pm,an,cdv,ct,osl,e,_⟩:=EF.f.ex;rw[e];exact .of_eq rfl
 let cl:Nat->Addr:=λk=>[C0,C1,C2,C3].getD k C0
 have hc:∀x c,(x,c)∈dB->mg x=some (.ref (cl c))/\Di K (cl c):=λx c hx=>(show ∀y∈dB,mg y.1=some (.ref (cl y.2))/\Di K (cl y.2)from List.forall_mem_cons.mpr ⟨⟨aaz X G X0.ns,X0.rs⟩,List.forall_mem_cons.mpr ⟨⟨aaz X G X1.ns,X1.rs⟩,List.forall_mem_cons.mpr ⟨⟨aaz X G X2.ns,X2.rs⟩,List.forall_mem_cons.mpr ⟨⟨aaz X G X3.ns,X3.rs⟩,λ_ h=>nomatch h⟩⟩⟩⟩) (x,c) hx;have kc:∀c,c<4->(λC c=>HS K C c C0 C1 C2 C3) (cl c) c/\PySem.W.exmOne K (.ref (cl c)) (.ref Wc)=some true:=λc h=>match c,h with
  |0,_=>⟨X0.cs,X0.em⟩
  |1,_=>⟨X1.cs,X1.em⟩
  |2,_=>⟨X2.cs,X2.em⟩
  |3,_=>⟨X3.cs,X3.em⟩
 have R:FJ K mg pr dr (top 32) Wc (λC c=>HS K C c C0 C1 C2 C3):=⟨FR.f,⟨rfl,rfl,rfl,by decide +kernel,rfl,by decide +kernel,by decide +kernel⟩,FR.f.binds λ_ _ _ _ _ _ us hl=>by obtain⟨_,rfl⟩:=kR hl;rfl,aaz X G FR.a,aaz X G xw,λY a oe C c h1 h2 h3 h4 hp ho hd k=>FG hp ho hd (by rw[h3];exact k) ⟨(by show Y.env.scope.names.lookup _=_;rw[h2];rfl),(by show Y.env.scope.names.lookup _=_;rw[h2];rfl),(by show Y.env.scope.names.lookup _=_;rw[h2];rfl),(by show Y.env.scope.names.lookup _=_;rw[h2];rfl),(by show Y.env.scope.names.lookup _=_;rw[h2];rfl),(by show Y.env.scope.names.lookup _=_;rw[h2];rfl),by rw[h4];exact aaz X G X0.ns,by rw[h4];exact aaz X G X1.ns,by rw[h4];exact aaz X G X2.ns,by rw[h4];exact aaz X G X3.ns,by rw[h4];exact aao X G z3,by rw[h4];exact aao X G z0⟩ h1 (by rw[h2];rfl) (by rw[h2];rfl) rfl rfl⟩
 refine(tL (P:=l.prog) (w:=w) (G:=tb aa dd) (cl:=cl) (su:=su) (base:=base) (λn A0 A1=>⟨λf i hi=>?_,λf i hi hu=>?_⟩) 60).1 21 (Jf aa dd) rfl
 .match f,hi with
  |0,hi=>obtain rfl:i0 aa dd=i:=PV hi;exact dG (i:=i0 aa dd) T A0 F0.f s0 rfl rfl (@allB.get _ _ _ 0 (f0.body,top 1,n0) (dP (cl:=cl)).1 rfl)
  |1,hi=>obtain rfl:i1 aa dd=i:=PV hi;exact dG (i:=i1 aa dd) T A0 F1.f s1 rfl rfl (@allB.get _ _ _ 1 (f1.body,top 2,n1) (dP (cl:=cl)).1 rfl)
  |2,hi=>obtain rfl:i2 aa dd=i:=PV hi;exact dG (i:=i2 aa dd) T A0 F2.f s2 rfl rfl (@allB.get _ _ _ 2 (f2.body,top 3,n2) (dP (cl:=cl)).1 rfl)
  |3,hi=>obtain rfl:i3 aa dd=i:=PV hi;exact dG (i:=i3 aa dd) T A0 F3.f s3 rfl rfl (@allB.get _ _ _ 3 (f3.body,top 4,n3) (dP (cl:=cl)).1 rfl)
  |4,hi=>obtain rfl:i4 aa dd=i:=PV hi;exact dG (i:=i4 aa dd) T A0 F4.f s4 rfl rfl (@allB.get _ _ _ 4 (f4.body,top 5,n4) (dP (cl:=cl)).1 rfl)
  |5,hi=>obtain rfl:i5 aa dd=i:=PV hi;exact dG (i:=i5 aa dd) T A0 F5.f s5 rfl rfl (@allB.get _ _ _ 5 (f5.body,top 14,n5) (dP (cl:=cl)).1 rfl)
  |6,hi=>obtain rfl:i6 aa dd=i:=PV hi;exact dG (i:=i6 aa dd) T A0 F6.f s6 rfl rfl (@allB.get _ _ _ 6 (f6.body,top 15,n6) (dP (cl:=cl)).1 rfl)
  |7,hi=>obtain rfl:i7 aa dd=i:=PV hi;exact dG (i:=i7 aa dd) T A0 F7.f s7 rfl rfl (@allB.get _ _ _ 7 (f7.body,top 16,n7) (dP (cl:=cl)).1 rfl)
  |8,hi=>obtain rfl:i8 aa dd=i:=PV hi;exact dG (i:=i8 aa dd) T A0 F8.f s8 rfl rfl (@allB.get _ _ _ 8 (f8.body,top 18,n8) (dP (cl:=cl)).1 rfl)
  |9,hi=>obtain rfl:i9 aa dd=i:=PV hi;exact dG (i:=i9 aa dd) T A0 F9.f s9 rfl rfl (@allB.get _ _ _ 9 (f9.body,top 20,n9) (dP (cl:=cl)).1 rfl)
  |10,hi=>obtain rfl:EA aa dd=i:=PV hi;exact dG (i:=EA aa dd) T A0 Jg.f Nv rfl rfl (@allB.get _ _ _ 10 (uN.body,top 21,ED) (dP (cl:=cl)).1 rfl)
  |11,hi=>obtain rfl:EB aa dd=i:=PV hi;exact dG (i:=EB aa dd) T A0 Jh.f CM rfl rfl (@allB.get _ _ _ 11 (zy.body,top 22,EE) (dP (cl:=cl)).1 rfl)
  |12,hi=>obtain rfl:i12 aa dd=i:=PV hi;exact dG (i:=i12 aa dd) T A0 QH.f s12 rfl rfl (@allB.get _ _ _ 12 (Dl.body,top 23,Qx) (dP (cl:=cl)).1 rfl)
  |13,hi=>obtain rfl:Qp aa dd=i:=PV hi;exact dG (i:=Qp aa dd) T A0 QI.f Yy rfl rfl (@allB.get _ _ _ 13 (Qi.body,top 24,Qy) (dP (cl:=cl)).1 rfl)
  |14,hi=>obtain rfl:Qq aa dd=i:=PV hi;exact dG (i:=Qq aa dd) T A0 QJ.f Yz rfl rfl (@allB.get _ _ _ 14 (Qj.body,top 26,Qz) (dP (cl:=cl)).1 rfl)
  |15,hi=>obtain rfl:Qs aa dd=i:=PV hi;exact dG (i:=Qs aa dd) T A0 QK.f YA rfl rfl (@allB.get _ _ _ 15 (Qk.body,top 27,QA) (dP (cl:=cl)).1 rfl)
  |16,hi=>obtain rfl:Qt aa dd=i:=PV hi;exact dG (i:=Qt aa dd) T A0 QL.f YB rfl rfl (@allB.get _ _ _ 16 (Ql.body,top 28,QB) (dP (cl:=cl)).1 rfl)
  |17,hi=>obtain rfl:Qu aa dd=i:=PV hi;exact dG (i:=Qu aa dd) T A0 QM.f YC rfl rfl (@allB.get _ _ _ 17 (Qm.body,top 29,QC) (dP (cl:=cl)).1 rfl)
  |18,hi=>obtain rfl:Qv aa dd=i:=PV hi;exact dG (i:=Qv aa dd) T A0 QN.f YD rfl rfl (@allB.get _ _ _ 18 (Qn.body,top 30,QD) (dP (cl:=cl)).1 rfl)
  |19,hi=>obtain rfl:UL aa dd=i:=PV hi;exact FL (ix:=4) (nc:=4) T A0 A1 R kc QO.f YE rfl rfl rfl (dP (cl:=cl)).2.2.2.2.2 rfl rfl rfl rfl
  |20,hi=>obtain rfl:Qw aa dd=i:=PV hi;exact dG (i:=Qw aa dd) T A0 QS.f YF rfl rfl (@allB.get _ _ _ 19 (Qo.body,top 34,QE) (dP (cl:=cl)).1 rfl)
  |21,hi=>obtain rfl:Jf aa dd=i:=PV hi;exact dG (i:=Jf aa dd) T A0 EF.f YG rfl rfl (@allB.get _ _ _ 20 (Ez.body,top 35,QF) (dP (cl:=cl)).1 rfl)
  |j+22,hi=>exact nomatch (show(none:Option FI)=some i from hi)
 .match f,hi,hu with
  |8,hi,_=>obtain rfl:i8 aa dd=i:=PV hi;exact rq (i:=i8 aa dd) T A0 A1 hz hc F8.f s8 rfl rfl (dP (cl:=cl)).2.1
  |9,hi,_=>obtain rfl:i9 aa dd=i:=PV hi;exact rq (i:=i9 aa dd) T A0 A1 hz hc F9.f s9 rfl rfl (dP (cl:=cl)).2.2.1
  |10,hi,_=>obtain rfl:EA aa dd=i:=PV hi;exact rq (i:=EA aa dd) T A0 A1 hz hc Jg.f Nv rfl rfl (dP (cl:=cl)).2.2.2.1
  |11,hi,_=>obtain rfl:EB aa dd=i:=PV hi;exact rq (i:=EB aa dd) T A0 A1 hz hc Jh.f CM rfl rfl (dP (cl:=cl)).2.2.2.2.1
  |0,_,hu=>exact absurd hu (by decide)
  |1,_,hu=>exact absurd hu (by decide)
  |2,_,hu=>exact absurd hu (by decide)
  |3,_,hu=>exact absurd hu (by decide)
  |4,_,hu=>exact absurd hu (by decide)
  |5,_,hu=>exact absurd hu (by decide)
  |6,_,hu=>exact absurd hu (by decide)
  |7,_,hu=>exact absurd hu (by decide)
  |12,_,hu=>exact absurd hu (by decide)
  |13,_,hu=>exact absurd hu (by decide)
  |14,_,hu=>exact absurd hu (by decide)
  |15,_,hu=>exact absurd hu (by decide)
  |16,_,hu=>exact absurd hu (by decide)
  |17,_,hu=>exact absurd hu (by decide)
  |18,_,hu=>exact absurd hu (by decide)
  |19,_,hu=>exact absurd hu (by decide)
  |20,_,hu=>exact absurd hu (by decide)
  |21,_,hu=>exact absurd hu (by decide)
  |j+22,hi,_=>exact nomatch (show(none:Option FI)=some i from hi)
end Lw
namespace Lg
open Pv
open Lw (prog sG Ez BV BW BX Je Ja Jb Jc Jd yi yj yk yl ym)
open Ev (deep big rep cut bE)
def TX(ns:List Int)(k:Int)(x:List Nat)(b:Nat)(h:x.length<=b):(chg ns k x).length<=2*b+2/\tot (chg ns k x)<=3*b+3:=by
 have h1:=oE ns k x (x.length+1);have h2:=uY ns k x (x.length+1);simp only[chg];omega
def LV(ns:List Int)(a:Int)(t:List Nat):∀p∈chg ns a t,0<p.n:=λp hp=>by
 unfold chg fC at hp;obtain⟨k,_,hp⟩:=List.mem_flatMap.mp hp;unfold jC at hp;have h1:=kI ns (a+4*k+2) (many:=2) (by decide);rcases List.mem_append.mp hp with hp|hp
 .split at hp
  .simp only[abD]at hp;subst hp;simp[Pt.n,rep];omega
  .cases hp
 .split at hp
  .simp only[abD]at hp;subst hp;split<;>simp[Pt.n]
  .cases hp
noncomputable def jn:V:=.tup [.str [114,101,102,117,115,101,100],.int 2]
def LW:Pv.bD .mul (.lst [jn]) (.int 2)=some (.lst [jn,jn]):=(xr (x:=[jn]) (j:=2) (by decide) (by decide) (by simp) (by simp[rep])).trans rfl
def QT:Pv.cop .eq (.lst [jn,jn]) (.lst [jn,jn])=some true:=rfl
def IS{P:aL}{f i:Nat}{fr:Fr}{a v:V}{l l':List V}(e:fr[i]?=some (some (.own l)))(h:P f [.val a,.bor l]=some (v,[l'])):cS P f [.inr a,.inl i] fr=.ok v (fr.set i (some (.own l'))):=by
 have e1:lent fr i=some (.bor l):=by rw[tS,e];rfl
 simp[cS,bK,args,e1,h,back,e,Sl.with]
def Jj(p:Nat×Nat):Pv.cop .ne (iT p) (iT p)=some false:=by
 rw[oq];unfold iT;rw[zS];simp[b9]
def ne_int(a:Int):Pv.cop .ne (.int a) (.int a)=some false:=by rw[IA];simp
def TZ(c:List Pt):Pv.cop .ne (aT c) (aT c)=some false:=by rw[oq,PF];simp
def QU(n:Nat)(a b:Rw):eE (n+2) (rV a) (rV b)=some (decide (a=b)):=by
 obtain⟨p,g,x⟩:=a;obtain⟨q,h,y⟩:=b;unfold rV;rw[O0];simp[b9]
 congr 1
 exact decide_eq_decide.mpr (by omega)
def Ao(r:List Rw):Pv.cop .ne (.lst (r.map rV)) (.lst (r.map rV))=some false:=by
 rw[oq,K2,tQ (λa b=>QU 17 a b)];simp
noncomputable def Aq:Nat->List (Nat×Nat)->List (Nat×Nat×Nat)
 |_,[]=>[]
 |k,p :: ps=>(k,p) :: Aq (k+1) ps
noncomputable def qN(p:Nat×Nat×Nat):V:=.tup [.int (p.1:Int),iT p.2]
theorem oO:∀(P:List (Nat×Nat)) (k:Nat),cD (k:Int) (P.map iT)=(Aq k P).map qN
 |[],k=>rfl
 |p :: P,k=>by
  simp only[aaa,cD,Aq];rw[show((k:Int)+1)=((k+1:Nat):Int)by omega,oO P];rfl
theorem ug:∀(P:List (Nat×Nat)) (k:Nat) (q:Nat×Nat×Nat),q∈Aq k P->k<=q.1/\P[q.1 - k]?=some q.2
 |p :: P,k,q,h=>by
  rcases List.mem_cons.mp h with rfl|h
  .simp
  .obtain⟨h1,h2⟩:=ug P (k+1) q h;refine⟨by omega,?_⟩;rw[show q.1 - k=(q.1 - (k+1))+1 by omega];simpa using h2
def xU(c:List Pt):tot (sw c)=tot c:=by
 induction c with
 |nil=>rfl
 |cons p c ih=>cases p<;>simp[sw,Pt.sw,tot,Pt.n]at ih ⊢<;>omega
def QV{c:List Pt}(h:∀p∈c,0<p.n):∀p∈sw c,0<p.n:=λp hp=>by
 obtain⟨q,hq,rfl⟩:=List.mem_map.mp hp;have:=h q hq;cases q<;>exact this
def G2(c:List Pt):ig (iH c)=ig (sw c):=by unfold ig iH;rw[qG,iS]
def uh(c:List Pt):(ig c).length=bu c+1:=by rw[ig,Ew,iJ,eG]
section
variable{w n:Nat}
def EG{a p s v:V}(r:run prog w (n+7) 9 [.val a,.val p,.val s]=some (v,[])):run prog w (n+8) 19 [.val (.int 0),.val a,.val p,.val s]=some (v,[]):=
 bV (fn:=sG) rfl rfl (ai (aN (b:=true) (ay rfl (aK (aq rfl) (az rfl) jw) rfl) (λ_=>ai (BD (vs:=[a,p,s]) (aF rfl (aq rfl) (aF rfl (aq rfl) (aF rfl (aq rfl) aV))) r ⟨rfl,rfl⟩)) λh=>absurd h (by decide)))
def LX{a p s:V}(r:cj prog w (n+7) 9 [.val a,.val p,.val s]=some 2):run prog w (n+8) 19 [.val (.int 0),.val a,.val p,.val s]=some (jn,[]):=
 bV (fn:=sG) rfl rfl (ai (aN (b:=true) (ay rfl (aK (aq rfl) (az rfl) jw) rfl) (λ_=>ai (xF (vs:=[a,p,s]) (aF rfl (aq rfl) (aF rfl (aq rfl) (aF rfl (aq rfl) aV))) (by decide) r (by decide) ⟨rfl,rfl⟩)) λh=>absurd h (by decide)))
def EH{a p s v:V}(r:run prog w (n+7) 10 [.val a,.val p,.val s]=some (v,[])):run prog w (n+8) 19 [.val (.int 1),.val a,.val p,.val s]=some (v,[]):=
 bV (fn:=sG) rfl rfl (ai (aN (b:=false) (ay rfl (aK (aq rfl) (az rfl) jw) rfl) (λh=>absurd h (by decide)) λ_=>ai (aN (b:=true) (ay rfl (aK (aq rfl) (az rfl) jw) rfl) (λ_=>ai (BD (vs:=[a,p,s]) (aF rfl (aq rfl) (aF rfl (aq rfl) (aF rfl (aq rfl) aV))) r ⟨rfl,rfl⟩)) λh=>absurd h (by decide))))
def Ar{a p s:V}(r:cj prog w (n+7) 10 [.val a,.val p,.val s]=some 2):run prog w (n+8) 19 [.val (.int 1),.val a,.val p,.val s]=some (jn,[]):=
 bV (fn:=sG) rfl rfl (ai (aN (b:=false) (ay rfl (aK (aq rfl) (az rfl) jw) rfl) (λh=>absurd h (by decide)) λ_=>ai (aN (b:=true) (ay rfl (aK (aq rfl) (az rfl) jw) rfl) (λ_=>ai (xF (vs:=[a,p,s]) (aF rfl (aq rfl) (aF rfl (aq rfl) (aF rfl (aq rfl) aV))) (by decide) r (by decide) ⟨rfl,rfl⟩)) λh=>absurd h (by decide))))
def EI{a p s v:V}(r:run prog w (n+7) 11 [.val a,.val p]=some (v,[])):run prog w (n+8) 19 [.val (.int 2),.val a,.val p,.val s]=some (v,[]):=
 bV (fn:=sG) rfl rfl (ai (aN (b:=false) (ay rfl (aK (aq rfl) (az rfl) jw) rfl) (λh=>absurd h (by decide)) λ_=>ai (aN (b:=false) (ay rfl (aK (aq rfl) (az rfl) jw) rfl) (λh=>absurd h (by decide)) λ_=>ai (BD (vs:=[a,p]) (aF rfl (aq rfl) (aF rfl (aq rfl) aV)) r ⟨rfl,rfl⟩))))
def As{a p s:V}(r:cj prog w (n+7) 11 [.val a,.val p]=some 2):run prog w (n+8) 19 [.val (.int 2),.val a,.val p,.val s]=some (jn,[]):=
 bV (fn:=sG) rfl rfl (ai (aN (b:=false) (ay rfl (aK (aq rfl) (az rfl) jw) rfl) (λh=>absurd h (by decide)) λ_=>ai (aN (b:=false) (ay rfl (aK (aq rfl) (az rfl) jw) rfl) (λh=>absurd h (by decide)) λ_=>ai (xF (vs:=[a,p]) (aF rfl (aq rfl) (aF rfl (aq rfl) aV)) (by decide) r (by decide) ⟨rfl,rfl⟩))))
variable(hw:5000<w)
theorem yo(hw:5000<w)(c:List Pt)(k:Nat)(p:Nat×Nat)(h1:c.length<=400)(h2:tot c<=400)(h:(ig c)[k]?=some p):run prog w (n+4) 9 [.val (aT c),.val (.int k),.val (.str BR)]=some (.int (p.1:Nat),[])/\run prog w (n+4) 9 [.val (aT c),.val (.int k),.val (.str BU)]=some (.int (p.2:Nat),[]):=by
 have hk:k<=bu c:=by have:=(List.getElem?_eq_some_iff.mp h).1;rw[uh]at this;omega
 obtain⟨A,B,C,r⟩:=sy (F:=prog) (aE:=4) (aO:=3) (aC:=0) (aR:=7) (aX:=6) (aW:=1) (bO:=2) (dX:=8) (i:=9) (w:=w) (n:=n) rfl rfl rfl rfl rfl rfl rfl rfl rfl hw c k (by omega) (by omega) hk;obtain⟨A',B',C',r'⟩:=qK (F:=prog) (aE:=4) (aO:=3) (aC:=0) (aR:=7) (aX:=6) (aW:=1) (bO:=2) (dX:=8) (i:=9) (w:=w) (n:=n) rfl rfl rfl rfl rfl rfl rfl rfl rfl hw c k (by omega) (by omega) hk;have e:=ue C;have e':=ue C';rw[h]at e e';cases e;have e2:=aab Prod.snd (PV e');exact⟨r,by rw[r'];exact aab (λz:Nat=>some (V.int (z:Int),[])) e2.symm⟩
theorem EJ(hw:5000<w)(c:List Pt)(k:Nat)(p:Nat×Nat)(h2:tot c<=400)(h1:c.length<=400)(h:(ig (sw c))[k]?=some p):run prog w (n+5) 10 [.val (aT c),.val (.int k),.val (.str BR)]=some (.int (p.1:Nat),[])/\run prog w (n+5) 10 [.val (aT c),.val (.int k),.val (.str BU)]=some (.int (p.2:Nat),[]):=by
 obtain⟨u1,u2⟩:=Aj c;obtain⟨r1,r2⟩:=yo (w:=w) (n:=n) hw (iH c) k p (by omega) (by omega) (by rw[G2];exact h);exact⟨kQ (F:=prog) (aE:=4) (aO:=3) (m8:=5) (qJ:=9) rfl rfl rfl rfl c _ _ (by omega) (by omega) r1,kQ (F:=prog) (aE:=4) (aO:=3) (m8:=5) (qJ:=9) rfl rfl rfl rfl c _ _ (by omega) (by omega) r2⟩
theorem sI(c:List Pt)(p:Int)(s:V)(h2:tot c<=400)(h1:c.length<=400)(h:p<0\/(cI c:Int)<p):cj prog w (n+5) 10 [.val (aT c),.val (.int p),.val s]=some 2:=by
 obtain⟨u1,u2⟩:=Aj c;have hb:bu (iH c)=cI c:=by simp only[iH];rw[iG,PR]
 exact pQ (F:=prog) (aE:=4) (aO:=3) (m8:=5) (qJ:=9) rfl rfl rfl rfl c _ _ (by omega) (by omega) (sD (F:=prog) (aO:=3) (aC:=0) (aX:=6) (aW:=1) (bO:=2) (dX:=8) (i:=9) rfl rfl rfl rfl (iH c) p s (by omega) (by omega) (by rw[hb];exact h))
noncomputable def lF(ns:List Int)(t:List Nat)(c:List Pt)(rows:List Rw)(a b d e f g h:Option Sl):Fr:=[some (.val (jW ns)),some (.val (.str t)),some (.val (aT c)),some (.val (.lst (bN c))),some (.val (.lst ((b5 c).map V.str))),some (.own (rows.map rV)),some (.val (.lst ((ig c).map iT))),a,b,d,e,f,g,h,none,none]
variable{ns:List Int}
theorem QW(hw:5000<w){t:List Nat}{c:List Pt}{rows:List Rw}(h1:c.length<=400)(h2:tot c<=400)(ht:t.length=bu c){k:Nat}{p:Nat×Nat}(hp:(ig c)[k]?=some p){a b d e f g h:Option Sl}(ha:vo a)(hb:vo b)(hd:vo d){Q:Fl->Fr->Prop}(q:∀a b d,vo a->vo b->vo d->Q .nx (lF ns t c rows a b d e f g h)) :
  Wp (turnF (run prog w (n+8)) w (.many [7,8]) BV (qN (k,p)) (lF ns t c rows a b d e f g h)) Q:=by
 have hk:k<=bu c:=by have:=(List.getElem?_eq_some_iff.mp hp).1;rw[uh]at this;omega
 obtain⟨r1,r2⟩:=yo (w:=w) (n:=n+3) hw c k p h1 h2 hp;have r1:=λfr=>jj (fr:=fr) (EG (n:=n) r1);have r2:=λfr=>jj (fr:=fr) (EG (n:=n) r2);have lb:=j9 c;have lt:dz .len [.str t]=some (.int (t.length:Nat)):=abe (by rw[eG]at lb;omega);refine dN (af:=lF ns t c rows (some (.val (.int (k:Int)))) (some (.val (iT p))) d e f g h) (gq rfl ha rfl hb) ?_;refine ai (aN (b:=false) (ay rfl (aK (cT (av (bW (aF rfl (az rfl) (aF rfl (aq rfl) (aF rfl (aq rfl) (aF rfl (az rfl) aV)))) (r1 _)) (av (bW (aF rfl (az rfl) (aF rfl (aq rfl) (aF rfl (aq rfl) (aF rfl (az rfl) aV)))) (r2 _)) aI)) eW) (aq rfl) (Jj p)) rfl) (λh=>absurd h (by decide)) λ_=>aD ?_);refine ai (aY (ao:=lF ns t c rows (some (.val (.int (k:Int)))) (some (.val (iT p))) (some (.val jn)) e f g h) (cT (av (az rfl) (av (az rfl) aI)) eW) rfl (fV rfl hd) ?_);by_cases hlt:k<bu c
 .refine ai (aN (b:=true) (ay rfl (aK (aq rfl) (eS (av (aq rfl) aI) lt) kK) (by show decide _=true;exact aaE (by omega))) (λ_=>?_) λh=>absurd h (by decide));obtain⟨A,B,C,hr⟩:=G1 (F:=prog) (aE:=4) (aO:=3) (aC:=0) (aR:=7) (aX:=6) (aW:=1) (bO:=2) (dX:=8) (i:=11) (w:=w) (n:=n+3) rfl rfl rfl rfl rfl rfl rfl rfl rfl hw c k (by omega) (by omega) hlt;have e2:=ue C;rw[hp]at e2;cases e2;rcases hr with ⟨r3,QX⟩|⟨r3,x,QX⟩
  .have ix:cY (.lst (bN c)) (.int (k:Int))=some (.str []):=by rw[gR,gQ,bN,aaj,QX];rfl
   have r3:=λfr=>jj (fr:=fr) (EI (n:=n) (s:=.aU) r3);refine ai (aY (v:=.int (cI A:Nat)) (ao:=lF ns t c rows (some (.val (.int (k:Int)))) (some (.val (iT (jX A,cI A)))) (some (.val (.int (cI A:Nat)))) e f g h) (pq (b:=true) (ay rfl (aK (b7 (aq rfl) (aq rfl) ix) (az rfl) cC) rfl) (λ_=>b7 (aq rfl) (az rfl) rfl) λh=>absurd h (by decide)) rfl rfl (aD ?_));refine ai (aN (b:=false) (ay rfl (aK (bW (aF rfl (az rfl) (aF rfl (aq rfl) (aF rfl (aq rfl) (aF rfl (az rfl) aV)))) (r3 _)) (aq rfl) (ne_int _)) rfl) (λh=>absurd h (by decide)) λ_=>aD (aD ?_));exact q _ _ _ .val .val .val
  .have ix:cY (.lst (bN c)) (.int (k:Int))=some (.str [x]):=by rw[gR,gQ,bN,aaj,QX];rfl
   have r3:=λfr=>jj (fr:=fr) (EI (n:=n) (s:=.aU) r3);refine ai (aY (v:=.aU) (ao:=lF ns t c rows (some (.val (.int (k:Int)))) (some (.val (iT (jX A,cI A)))) (some (.val .aU)) e f g h) (pq (b:=false) (ay rfl (aK (b7 (aq rfl) (aq rfl) ix) (az rfl) cC) (by show decide ([x]=([]:List Nat))=false;simp)) (λh=>absurd h (by decide)) λ_=>az rfl) rfl rfl (aD ?_));refine ai (aN (b:=false) (ay rfl (aK (bW (aF rfl (az rfl) (aF rfl (aq rfl) (aF rfl (aq rfl) (aF rfl (az rfl) aV)))) (r3 _)) (aq rfl) rfl) rfl) (λh=>absurd h (by decide)) λ_=>aD (aD ?_));exact q _ _ _ .val .val .val
 .refine ai (aN (b:=false) (ay rfl (aK (aq rfl) (eS (av (aq rfl) aI) lt) kK) (by show decide _=false;exact aad (by omega))) (λh=>absurd h (by decide)) λ_=>aD ?_);have r3:=λfr=>jj (fr:=fr) (As (n:=n) (s:=.aU) (u0 (F:=prog) (aE:=4) (aO:=3) (aC:=0) (aR:=7) (aX:=6) (aW:=1) (bO:=2) (dX:=8) (i:=11) (w:=w) (n:=n+3) rfl rfl rfl rfl rfl rfl rfl rfl hw c (k:Int) (by omega) (by omega) (.inr (by omega))));refine ai (aN (b:=false) (ay rfl (aK (bW (aF rfl (az rfl) (aF rfl (aq rfl) (aF rfl (aq rfl) (aF rfl (az rfl) aV)))) (r3 _)) (aq rfl) rfl) rfl) (λh=>absurd h (by decide)) λ_=>aD (aD ?_));exact q _ _ _ .val .val .val
def QY(hw:5000<w){t:List Nat}{c:List Pt}{rows:List Rw}(h1:c.length<=400)(h2:tot c<=400){k:Nat}{p:Nat×Nat}(hp:(ig (sw c))[k]?=some p){a b d e f g h:Option Sl}(ha:vo a)(hb:vo b){Q:Fl->Fr->Prop}(q:∀a b,vo a->vo b->Q .nx (lF ns t c rows a b d e f g h)) :
  Wp (turnF (run prog w (n+8)) w (.many [7,8]) BW (qN (k,p)) (lF ns t c rows a b d e f g h)) Q:=by
 obtain⟨r1,r2⟩:=EJ (w:=w) (n:=n+2) hw c k p h2 h1 hp;have r1:=λfr=>jj (fr:=fr) (EH (n:=n) r1);have r2:=λfr=>jj (fr:=fr) (EH (n:=n) r2);refine dN (af:=lF ns t c rows (some (.val (.int (k:Int)))) (some (.val (iT p))) d e f g h) (gq rfl ha rfl hb) ?_;refine ai (aN (b:=false) (ay rfl (aK (cT (av (bW (aF rfl (az rfl) (aF rfl (aq rfl) (aF rfl (aq rfl) (aF rfl (az rfl) aV)))) (r1 _)) (av (bW (aF rfl (az rfl) (aF rfl (aq rfl) (aF rfl (aq rfl) (aF rfl (az rfl) aV)))) (r2 _)) aI)) eW) (aq rfl) (Jj p)) rfl) (λh=>absurd h (by decide)) λ_=>aD (aD ?_));exact q _ _ .val .val
theorem QZ{α:Type}(l:List α){s k:Nat}(h1:s<=k)(h2:k<=l.length):Ev.cut l (some (s:Int)) (some (k:Int))=(l.drop s).take (k - s):=by
 unfold Ev.cut Ev.aP;simp only;rw[Yv (by omega),Yv (by omega),abl,abl,abY h2,abY (show s<=l.length by omega)]
theorem emit{t:List Nat}{c:List Pt}{rows:List Rw}(h2:tot c<=400){st k:Nat}{gn p:List Nat}(hk:k=st+gn.length)(hs:((asks c).drop st).take gn.length=gn.map λx=>[x])(hp:(b5 c)[k]?=some p)(YI:k<=(asks c).length)(hr:rows.length<=900){b d e g h:Option Sl}{Q:Fl->Fr->Prop}
  (q:Q .nx (lF ns t c (rows++gP st gn p) (some (.val (.int (k:Int)))) b d e (some (.val (.int ((k+1:Nat):Int)))) g h)) :
  Wp (exs (run prog w (n+8)) w (.cons (.iff (.orr (.cmp .lt (.v 11) (.v 7)) (.cmp .ne (.ix (.v 4) (.v 7)) (.c (.str [])))) (.cons (.exp (.me .append (.v 5) (.cons (.tup (.cons (.v 11) (.cons (.me .join (.c (.str [])) (.cons (.sl (.v 3) (.yes (.v 11)) (.yes (.v 7))) .nil)) (.cons (.ix (.v 4) (.v 7)) .nil)))) .nil))) .nil) .nil) (.cons (.set 11 (.bin .add (.v 7) (.c (.int 1)))) .nil)) (lF ns t c rows (some (.val (.int (k:Int)))) b d e (some (.val (.int (st:Int)))) g h)) Q:=by
 have lA:=j9 c;have ix:cY (.lst ((b5 c).map V.str)) (.int (k:Int))=some (.str p):=by rw[gR,gQ,aaj,hp];rfl
 have a1:Pv.bD .add (.int (k:Int)) (.int 1)=some (.int ((k+1:Nat):Int)):=by rw[cB];congr 2
 have tl:∀rows',Q .nx (lF ns t c rows' (some (.val (.int (k:Int)))) b d e (some (.val (.int ((k+1:Nat):Int)))) g h)->Wp (exs (run prog w (n+8)) w (.cons (.set 11 (.bin .add (.v 7) (.c (.int 1)))) .nil) (lF ns t c rows' (some (.val (.int (k:Int)))) b d e (some (.val (.int (st:Int)))) g h)) Q:=λrows' q'=>
  ai (aY (ao:=lF ns t c rows' (some (.val (.int (k:Int)))) b d e (some (.val (.int ((k+1:Nat):Int)))) g h) (bg (aq rfl) (az rfl) a1) rfl rfl (aD q'))
 by_cases hc:gn≠[]\/p≠[]
 .have Qh:aH (run prog w (n+8)) (.orr (.cmp .lt (.v 11) (.v 7)) (.cmp .ne (.ix (.v 4) (.v 7)) (.c (.str [])))) (lF ns t c rows (some (.val (.int (k:Int)))) b d e (some (.val (.int (st:Int)))) g h)=.ok true (lF ns t c rows (some (.val (.int (k:Int)))) b d e (some (.val (.int (st:Int)))) g h):=by
   by_cases yh:gn=[]
   .have hp0:p≠[]:=hc.resolve_left (λz=>z yh);refine fG (ay rfl (aK (aq rfl) (aq rfl) kK) (by show decide _=false;exact aad (by rw[hk,yh];simp))) (ay rfl (aK (b7 (aq rfl) (aq rfl) ix) (az rfl) gm) (by show(!decide (p=[]))=true;simp[hp0]))
   .have:0<gn.length:=List.length_pos_iff.mpr yh;exact kJ (ay rfl (aK (aq rfl) (aq rfl) kK) (by show decide _=true;exact aaE (by omega)))
  have sl:iZ (.lst (bN c)) (some (st:Int)) (some (k:Int))=some (.lst ((gn.map λx=>[x]).map V.str)):=by
   show eN (Ev.cut (bN c) _ _)=_;rw[QZ _ (by omega) (by rw[bN,aag];exact YI),bN,<-List.map_drop,<-List.map_take,show k - st=gn.length by omega,hs];exact fE (bX (by simp;omega))
  have hj:=Iv (l:=gn.map λx=>[x]) (by rw[jB];simp;omega);rw[jB,List.map_id']at hj;rw[gP,mD hc]at q;refine ai (aN (b:=true) Qh (λ_=>?_) λh=>absurd h (by decide));refine ai (fR (v:=.aU) (af:=lF ns t c (rows++[(st,gn,p)]) (some (.val (.int (k:Int)))) b d e (some (.val (.int (st:Int)))) g h) (lq rfl rfl (av (cT (av (aq rfl) (av (By rfl (az rfl) (av (Gm (aq rfl) (rQ (aq rfl)) (rQ (aq rfl)) sl) aI) hj) (av (b7 (aq rfl) (aq rfl) ix) aI))) Bq) aI) ((j5 (by simp;omega)).trans (by simp[lF,rV]))) (aD ?_));exact tl _ q
 .have hc':gn=[]/\p=[]:=by simpa using hc
  rw[gP,Yv hc,aae]at q;refine ai (aN (b:=false) (fG (ay rfl (aK (aq rfl) (aq rfl) kK) (by show decide _=false;exact aad (by rw[hk,hc'.1];simp))) (ay rfl (aK (b7 (aq rfl) (aq rfl) ix) (az rfl) gm) (by show(!decide (p=[]))=false;simp[hc'.2]))) (λh=>absurd h (by decide)) λ_=>aD ?_);exact tl _ q
def qF(c:List Pt):∀a∈asks c,a=[]\/∃x,a=[x]:=λa ha=>by
 obtain⟨p,_,hp⟩:=List.mem_flatMap.mp (show a∈c.flatMap Pt.asks from ha);cases p with
 |keep n=>exact .inl (acu hp)
 |drop s=>obtain⟨x,_,rfl⟩:=List.mem_map.mp hp;exact .inr ⟨x,rfl⟩
 |put s=>cases hp
structure Cn(c:List Pt)(k:Nat)(rows:List Rw)(st:Nat)(gn:List Nat):Prop where
 at_:k=st+gn.length
 sg:((asks c).drop st).take gn.length=gn.map λx=>[x]
 rest:k<=(asks c).length->rows++kP ((asks c).drop k) ((b5 c).drop k) st gn=fT c
 all:(asks c).length<k->rows=fT c
 len:rows.length<=k
theorem Q0{t:List Nat}{c:List Pt}{rows:List Rw}(h2:tot c<=400)(ht:t.length=bu c){k st:Nat}{gn:List Nat}(hC:Cn c k rows st gn)(hk:k<=(asks c).length){a b d e g h:Option Sl}(ha:vo a){Q:Fl->Fr->Prop}(q:∀a rows st gn,vo a->Cn c (k+1) rows st gn->Q .nx (lF ns t c rows a b d e (some (.val (.int (st:Int)))) g h)) :
  Wp (turnF (run prog w (n+8)) w (.one 7) BX (.int (0+(k:Nat))) (lF ns t c rows a b d e (some (.val (.int (st:Int)))) g h)) Q:=by
 have lA:=j9 c;have lG:=iJ c;have la:=eG c;have lt:dz .len [.str t]=some (.int (t.length:Nat)):=abe (by omega);have hlt:k<(b5 c).length:=by omega
 have hp:(b5 c)[k]?=some (b5 c)[k]:=WR hlt;have eg:(b5 c).drop k=(b5 c)[k] :: (b5 c).drop (k+1):=aaQ hlt;have hR:=hC.rest hk;rw[eg]at hR;have hl:=hC.len;have re:(rows++gP st gn (b5 c)[k]).length<=k+1:=by unfold gP;split<;>simp<;>omega
 rw[show(0:Int)+(k:Nat)=(k:Int)by omega];refine dN (af:=lF ns t c rows (some (.val (.int (k:Int)))) b d e (some (.val (.int (st:Int)))) g h) (bind1 rfl ha) ?_;by_cases YY:k=(asks c).length
 .refine ai (aN (b:=true) (kJ (ay rfl (aK (aq rfl) (eS (av (aq rfl) aI) lt) jw) (by show decide _=true;exact aaE (by omega)))) (λ_=>?_) λh=>absurd h (by decide));refine emit h2 hC.at_ hC.sg hp hk (by omega) (aD ?_);refine q _ _ _ [] .val ⟨by simp,by simp,λz=>absurd z (by omega),λ_=>?_,re⟩;rw[show(asks c).drop k=[]from acB (by omega)]at hR;exact hR
 .have hk2:k<(asks c).length:=by omega
  have ea:(asks c).drop k=(asks c)[k] :: (asks c).drop (k+1):=aaQ hk2;rw[ea]at hR;simp only[kP]at hR;have ix:cY (.lst (bN c)) (.int (k:Int))=some (.str (asks c)[k]):=by rw[gR,gQ,bN,aaj,WR hk2];rfl
  have c1:aH (run prog w (n+8)) (.cmp .eq (.v 7) (.bi .len (.cons (.v 1) .nil))) (lF ns t c rows (some (.val (.int (k:Int)))) b d e (some (.val (.int (st:Int)))) g h)=.ok false (lF ns t c rows (some (.val (.int (k:Int)))) b d e (some (.val (.int (st:Int)))) g h):=ay rfl (aK (aq rfl) (eS (av (aq rfl) aI) lt) jw) (by show decide _=false;exact aad (by omega));rcases qF c (asks c)[k] (List.getElem_mem hk2)with h0|⟨x,h0⟩
  .rw[mD h0,<-aar]at hR;refine ai (aN (b:=true) (fG c1 (ay rfl (aK (b7 (aq rfl) (aq rfl) ix) (az rfl) cC) (by show decide _=true;exact aaE h0))) (λ_=>?_) λh=>absurd h (by decide));refine emit h2 hC.at_ hC.sg hp hk (by omega) (aD ?_);refine q _ _ _ [] .val ⟨by simp,by simp,λ_=>?_,λz=>absurd z (by omega),re⟩;rw[show k+1=st+gn.length+1 by rw[<-hC.at_]];rw[<-hC.at_]at hR ⊢;exact hR
  .rw[Yv (by rw[h0];simp),h0]at hR;refine ai (aN (b:=false) (fG c1 (ay rfl (aK (b7 (aq rfl) (aq rfl) ix) (az rfl) cC) (by show decide _=false;exact aad (by rw[h0];simp)))) (λh=>absurd h (by decide)) λ_=>aD (aD ?_));refine q _ _ _ (gn++[x]) .val ⟨by have:=hC.at_;simp;omega,?_,λ_=>hR,λz=>absurd z (by omega),by omega⟩;have hst:st+gn.length<(asks c).length:=by rw[<-hC.at_];exact hk2
   rw[PX,aav,List.take_succ,hC.sg,acV,<-hC.at_,WR hk2,h0];simp
theorem sJ:∀(R:List Pt) (p:Nat) (g x:List Nat),(fu R p g x).length<=R.length+1
 |[],p,g,x=>by unfold fu gP;split<;>simp
 |.drop s :: R,p,g,x=>by have:=sJ R p s x;simp[fu];omega
 |.put s :: R,p,g,x=>by have:=sJ R p g s;simp[fu];omega
 |.keep k :: R,p,g,x=>by
  have:=sJ R (p+g.length+k) [] [];simp only[fu,PX,aai];have:(gP p g x).length<=1:=by unfold gP;split<;>simp
  omega
theorem BY{N:Nat}:∀(R:List Pt) (p:Nat) (g x:List Nat),(∀q∈R,q.n<=N)->g.length<=N->∀r∈fu R p g x,r.2.1.length<=N
 |[],p,g,x,_,hg,r,hr=>by
  unfold fu gP at hr;split at hr
  .rw[List.mem_singleton.mp hr];exact hg
  .cases hr
 |.drop s :: R,p,g,x,h,hg,r,hr=>BY R p s x (λq hq=>h q (by simp[hq])) (h (.drop s) (by simp)) r hr
 |.put s :: R,p,g,x,h,hg,r,hr=>BY R p g s (λq hq=>h q (by simp[hq])) hg r hr
 |.keep k :: R,p,g,x,h,hg,r,hr=>by
  rcases List.mem_append.mp hr with hr|hr
  .unfold gP at hr;split at hr
   .rw[List.mem_singleton.mp hr];exact hg
   .cases hr
  .exact BY R _ [] [] (λq hq=>h q (by simp[hq])) (by simp) r hr
theorem Q2(c:List Pt)(h2:tot c<=400):run prog w (n+8) 13 [.val (.int (bu c:Nat)),.bor ((fT c).map rV)]=some (aT (bF c),[(fT c).map rV]):=by
 have l1:=fY (fX (dY c));have t1:=kN c;have hl:=sJ (bF c) 0 [] [];have ha:=sC (bF c) 0 0 (bu c) [] [] (dY c) (λz=>absurd rfl z) (λz=>absurd rfl z) (Ad _) (by rw[iG];simp);have ht:tot (gW (fT c) 0 (bu c))<=900:=by rw[<-fW,fT,ha];simp;rw[fW];omega
 have:=uf (F:=prog) (aE:=4) (aO:=3) (i:=13) (w:=w) (n:=n+5) rfl rfl rfl (fT c) (bu c) (LS c) (by show(fu (bF c) 0 [] []).length<=900;omega) (BY (bF c) 0 [] [] (λq hq=>by have:=GH hq;omega) (by simp)) ht;rw[LR]at this;exact this
theorem G3(c:List Pt):∃lo,(ig c).getLast?=some (lo,cI c):=by
 obtain⟨lo,h1,_⟩:=cm_get (b5 c) (asks c) (asks c).length 0 0 (iJ c) (Ad _);refine⟨lo,?_⟩;rw[acj,uh,<-eG,abC];show(oK 0 (b5 c) (asks c))[_]?=_;rw[h1,aaF (by rw[iJ];omega),aaF (by omega),<-Ag,mZ,acO]
theorem EK(hw:5000<w){t:List Nat}{c:List Pt}(h1:c.length<=400)(h2:tot c<=400)(ht:t.length=bu c){a b d e f:Option Sl} :
  Wp (exs (run prog w (n+8)) w (.cons yi (.cons yj (.cons yk (.cons yl (.cons ym .nil))))) (lF ns t c (fT c) a b d e f none none)) λg fr=>g=.ret (.bl true)/\outs 1 fr=[]:=by
 have lA:=j9 c;have la:=eG c;have lt:dz .len [.str t]=some (.int (bu c:Nat)):=by rw[<-ht];exact abe (by omega)
 have rt:=λfr=>dS (fr:=fr) (yK (F:=prog) (aE:=4) (aO:=3) (i:=12) (w:=w) (n:=n+5) rfl rfl rfl c (by omega) (by omega));have rf:=λfr=>dS (fr:=fr) (kM (F:=prog) (aE:=4) (i:=3) (w:=w) (n:=n+6) rfl rfl c (by omega) (by omega));have ro:=Q2 (w:=w) (n:=n) c h2;refine ai (aN (b:=false) (fG (ay rfl (aK (bW (aF rfl (aq rfl) aV) (rt _)) (aq rfl) (Ao _)) rfl) (ay rfl (aK (bW (aF rfl (eS (av (aq rfl) aI) lt) (Pw rfl aV)) (IS rfl ro)) (bW (aF rfl (aq rfl) aV) (rf _)) (TZ _)) rfl)) (λh=>absurd h (by decide)) λ_=>aD ?_);refine ai (aN (af:=lF ns t c (fT c) a b d e f none none) (b:=false) (ay rfl (aK (bW (aF rfl (aq rfl) aV) (rt _)) (aq rfl) (Ao _)) rfl) (λh=>absurd h (by decide)) λ_=>aD ?_);refine ai (jA (vs:=[(-1:Int),((bu c:Nat):Int)+1].map V.int) (af:=lF ns t c (fT c) a b d e f none none) (jk (cT (av (gS (az rfl)) (av (bg (eS (av (aq rfl) aI) lt) (az rfl) cB) aI)) eW) rfl) ?_);refine fF (e:=V.int) (λp l fr=>(∀x∈l,x<0\/((bu c:Nat):Int)<x)/\∃g,vo g/\fr=lF ns t c (fT c) a b d e f g none) (λp x l fr ⟨hx,g,hg,hfr⟩=>?_) (λp fr ⟨hx,g,hg,hfr⟩=>?_) _ [] _ ⟨λx hx=>by simp at hx;omega,none,.none,rfl⟩
 .subst hfr;have r1:=λfr=>jj (fr:=fr) (LX (n:=n) (sD (F:=prog) (aO:=3) (aC:=0) (aX:=6) (aW:=1) (bO:=2) (dX:=8) (i:=9) (w:=w) (n:=n+3) rfl rfl rfl rfl c x (.str BR) (by omega) (by omega) (hx x (by simp))));have r2:=λfr=>jj (fr:=fr) (As (n:=n) (s:=.aU) (u0 (F:=prog) (aE:=4) (aO:=3) (aC:=0) (aR:=7) (aX:=6) (aW:=1) (bO:=2) (dX:=8) (i:=11) (w:=w) (n:=n+3) rfl rfl rfl rfl rfl rfl rfl rfl hw c x (by omega) (by omega) (by have:=hx x (by simp);omega)));refine dN (af:=lF ns t c (fT c) a b d e f (some (.val (.int x))) none) (bind1 rfl hg) ?_;refine ai (aN (b:=false) (ay rfl (aK (bW (aF rfl (az rfl) (aF rfl (aq rfl) (aF rfl (aq rfl) (aF rfl (az rfl) aV)))) (r1 _)) (cT (av (az rfl) (av (az rfl) aI)) eW) rfl) rfl) (λh=>absurd h (by decide)) λ_=>aD ?_);refine ai (aN (b:=false) (ay rfl (aK (bW (aF rfl (az rfl) (aF rfl (aq rfl) (aF rfl (aq rfl) (aF rfl (az rfl) aV)))) (r2 _)) (cT (av (az rfl) (av (az rfl) aI)) eW) rfl) rfl) (λh=>absurd h (by decide)) λ_=>aD (aD ?_));rw[dR];exact⟨λy hy=>hx y (by simp[hy]),_,.val,rfl⟩
 .subst hfr;obtain⟨lo,T3⟩:=G3 c;have ix:cY (.lst ((ig c).map iT)) (.int (-1))=some (iT (lo,cI c)):=by rw[gR,oz,List.getLast?_map,T3];rfl
  have YJ:cY (iT (lo,cI c)) (.int 1)=some (.int (cI c:Nat)):=rfl;have r1:=λfr=>jj (fr:=fr) (Ar (n:=n) (sI (w:=w) (n:=n+2) c (-1) (.str BR) h2 h1 (.inl (by decide))));have r2:=λfr=>jj (fr:=fr) (Ar (n:=n) (sI (w:=w) (n:=n+2) c ((cI c:Nat)+1) (.str BU) h2 h1 (.inr (by omega))));refine ai (eX (l:=[jn,jn]) (fQ (av (bW (aF rfl (az rfl) (aF rfl (aq rfl) (aF rfl (gS (az rfl)) (aF rfl (az rfl) aV)))) (r1 _)) (av (bW (aF rfl (az rfl) (aF rfl (aq rfl) (aF rfl (bg (b7 (b7 (aq rfl) (gS (az rfl)) ix) (az rfl) YJ) (az rfl) cB) (aF rfl (az rfl) aV)))) (r2 _)) aI)) rfl) rfl rfl ?_);exact ai (b8 (aK (aq rfl) (bg (fQ (av (cT (av (az rfl) (av (az rfl) aI)) eW) aI) kY) (az rfl) LW) QT) ⟨rfl,rfl⟩)
variable(hn:ns.length<=63)
include hn
theorem Q3(hw:5000<w):run prog w (n+9) 21 [.val (jW ns)]=some (.bl true,[]):=by
 have ht:(txt ns 0 5).length<=5:=Lr ns 0 (most:=5) (by decide);have c1:=λfr=>iw (fr:=fr) (Gq (F:=prog) (c:=14) (dr:=15) (t:=16) (w:=w) (n:=n+5) rfl rfl hn rfl 0 5 (by decide) (by decide));have c2:=λfr=>iw (fr:=fr) (BE (F:=prog) (c:=14) (dr:=15) (t:=17) (w:=w) (n:=n+5) rfl rfl hn rfl 10 (txt ns 0 5) (by omega));obtain⟨l1,t1⟩:=TX ns 10 (txt ns 0 5) 5 ht;have fc:=LA (LD ns 10 (txt ns 0 5));have pc:=LV ns 10 (txt ns 0 5);generalize txt ns 0 5=t at *
 generalize chg ns 10 t=c at *
 have h1:c.length<=400:=by omega
 have h2:tot c<=400:=by omega
 have gp:=λfr=>dS (fr:=fr) (x9 (F:=prog) (i:=18) (w:=w) (n:=n+7) rfl c pc h2);have rc:=λfr=>dS (fr:=fr) (u6 (F:=prog) (sF:=18) (i:=20) (w:=w) (n:=n+6) rfl rfl c pc h2);have rs:=λfr=>dS (fr:=fr) (u6 (F:=prog) (sF:=18) (i:=20) (w:=w) (n:=n+6) rfl rfl (sw c) (QV pc) (by rw[xU];exact h2));have lt:dz .len [.str t]=some (.int (t.length:Nat)):=abe (by omega);refine bV (fn:=Ez) rfl rfl ?_;refine ai (aY (bW (aF rfl (aq rfl) (aF rfl (az rfl) (aF rfl (az rfl) aV))) (c1 _)) rfl rfl ?_);refine ai (aY (bW (aF rfl (aq rfl) (aF rfl (az rfl) (aF rfl (aq rfl) aV))) (c2 _)) rfl rfl ?_);refine ai (DS (bW (aF rfl (aq rfl) aV) (gp _)) (gq rfl .none rfl .none) ?_);refine ai (eX (l:=[]) (fQ aI mW) rfl rfl ?_);refine ai (aY (bW (aF rfl (aq rfl) aV) (rc _)) rfl rfl ?_);refine ai (jA (vs:=(Aq 0 (ig c)).map qN) (af:=lF ns t c [] none none none none none none none) (by rw[<-oO];exact tU (iP rfl) rfl) ?_);refine fF (e:=qN) (λp l fr=>(∀q∈l,(ig c)[q.1]?=some q.2)/\∃a b d,vo a/\vo b/\vo d/\fr=lF ns t c [] a b d none none none none) (λp q l fr ⟨hq,a,b,d,ha,hb,hd,hfr⟩=>?_) (λp fr ⟨hq,a,b,d,ha,hb,hd,hfr⟩=>?_) _ [] _ ⟨λq hq=>(ug _ _ q hq).2,none,none,none,.none,.none,.none,rfl⟩
 .subst hfr;refine QW hw h1 h2 fc (hq q (by simp)) ha hb hd λa b d ha hb hd=>?_;rw[dR];exact⟨λr hr=>hq r (by simp[hr]),a,b,d,ha,hb,hd,rfl⟩
 .subst hfr;refine ai (aY (ao:=lF ns t c [] a b d (some (.val (.dw [([107,101,101,112],[107,101,101,112]),([112,117,116],[100,114,111,112]),([100,114,111,112],[112,117,116])]))) none none none) (Sa (by simp)) rfl rfl ?_);have cm:cK (kZ (run prog w (n+8)) (.tup (.cons (.ku (.v 10) (.v 14)) (.cons (.v 15) .nil))) (.many [14,15]) .no (lF ns t c [] a b d (some (.val (.dw [([107,101,101,112],[107,101,101,112]),([112,117,116],[100,114,111,112]),([100,114,111,112],[112,117,116])]))) none none none)) (c.map Pt.v)=some ((sw c).map Pt.v):=by
   have Q4:rA (lF ns t c [] a b d (some (.val (.dw [([107,101,101,112],[107,101,101,112]),([112,117,116],[100,114,111,112]),([100,114,111,112],[112,117,116])]))) none none none)=[some (.val (jW ns)),some (.val (.str t)),some (.val (aT c)),some (.val (.lst (bN c))),some (.val (.lst ((b5 c).map V.str))),some (.ro []),some (.val (.lst ((ig c).map iT))),a.map Sl.read,b.map Sl.read,d.map Sl.read,some (.val (.dw [([107,101,101,112],[107,101,101,112]),([112,117,116],[100,114,111,112]),([100,114,111,112],[112,117,116])])),none,none,none,none,none]:=rfl;rw[sw,abX];refine ow _ _ _ λp _=>?_;cases p with
   |keep k=>exact oA (by rw[Q4];rfl) (cT (av (Bx (aq rfl) (aq rfl) rfl) (av (aq rfl) aI)) eW)
   |put s=>exact oA (by rw[Q4];rfl) (cT (av (Bx (aq rfl) (aq rfl) rfl) (av (aq rfl) aI)) eW)
   |drop s=>exact oA (by rw[Q4];rfl) (cT (av (Bx (aq rfl) (aq rfl) rfl) (av (aq rfl) aI)) eW)
  have YZ:(sw c).length=c.length:=by simp[sw]
  refine ai (jA (vs:=(Aq 0 (ig (sw c))).map qN) (af:=lF ns t c [] a b d (some (.val (.dw [([107,101,101,112],[107,101,101,112]),([112,117,116],[100,114,111,112]),([100,114,111,112],[112,117,116])]))) none none none) (by rw[<-oO];exact tU (bW (aF rfl (pD (rP (jk (iP rfl) rfl) rfl cm (fE (bX (by simp;omega)))) (by show gD _=some (aT (sw c));unfold gD;rw[mD (bX (by simp;omega))];rfl)) aV) (rs _)) rfl) ?_);refine fF (e:=qN) (λp l fr=>(∀q∈l,(ig (sw c))[q.1]?=some q.2)/\∃a b,vo a/\vo b/\fr=lF ns t c [] a b d (some (.val (.dw [([107,101,101,112],[107,101,101,112]),([112,117,116],[100,114,111,112]),([100,114,111,112],[112,117,116])]))) none none none) (λp q l fr ⟨hq,a,b,ha,hb,hfr⟩=>?_) (λp fr ⟨hq,a,b,ha,hb,hfr⟩=>?_) _ [] _ ⟨λq hq=>(ug _ _ q hq).2,a,b,ha,hb,rfl⟩
  .subst hfr;refine QY hw h1 h2 (hq q (by simp)) ha hb λa b ha hb=>?_;rw[dR];exact⟨λr hr=>hq r (by simp[hr]),a,b,ha,hb,rfl⟩
  .subst hfr;generalize (some (Sl.val (.dw [([107,101,101,112],[107,101,101,112]),([112,117,116],[100,114,111,112]),([100,114,111,112],[112,117,116])])))=dd
   refine ai (aY (ao:=lF ns t c [] a b d dd (some (.val (.int 0))) none none) (az rfl) rfl rfl ?_);have lA:=eG c;refine ai (jA (vs:=range 0 (bu c+1)) (af:=lF ns t c [] a b d dd (some (.val (.int 0))) none none) (xE (av (bg (eS (av (aq rfl) aI) lt) (az rfl) cB) aI) (PK (by omega) (by omega))) ?_);refine zU (lo:=0) (N:=bu c+1) (λk fr=>∃a rows st gn,vo a/\Cn c k rows st gn/\fr=lF ns t c rows a b d dd (some (.val (.int (st:Nat)))) none none) (λk fr hk ⟨a,rows,st,gn,ha,hC,hfr⟩=>?_) (λfr ⟨a,rows,st,gn,ha,hC,hfr⟩=>?_) ⟨a,[],0,[],ha,⟨rfl,by simp,λ_=>by rw[aaV,abH,abH,Qg],λz=>absurd z (by omega),by simp⟩,rfl⟩
   .subst hfr;refine Q0 h2 fc hC (by omega) ha λa rows st gn ha hC=>?_;rw[dR];exact⟨a,rows,st,gn,ha,hC,rfl⟩
   .subst hfr;rw[hC.all (by omega)];exact EK hw h1 h2 fc
end
def good:∀ns:List Int,ns.length<=63->∃h',Ev.run prog 100000 60 21 [.ref 0] [.bY (ns.map Ev.D.int)]=.ok (.bl true) h':=λns h=>K0 (Q3 (w:=100000) (n:=51) h (by decide))
end Lg
theorem Lw.good:∀ns:List Int,ns.length<=63->∃h',Ev.run Lw.prog 100000 60 21 [.ref 0] [.bY (ns.map Ev.D.int)]=.ok (.bl true) h':=Lg.good
namespace PySem.W.Fast
theorem tw5249688920437493617:True:=⟨⟩
theorem tw11875715290663292085:True:=⟨⟩
theorem tw9463342995408089022:True:=⟨⟩
theorem tw15981422054744048262:True:=⟨⟩
theorem tw1493485151460544393:True:=⟨⟩
theorem tw2601956183561091863:True:=⟨⟩
theorem tw17009823491139137789:True:=⟨⟩
theorem tw4737120055074836031:True:=⟨⟩
theorem tw3494311555868971490:True:=⟨⟩
theorem tw9689097155377049822:True:=⟨⟩
theorem tw4403742537496372514:True:=⟨⟩
theorem tw1625638291834686402:True:=⟨⟩
theorem tw6381722004985876873:True:=⟨⟩
theorem tw2313769235935961132:True:=⟨⟩
theorem tw3178587324558425071:True:=⟨⟩
theorem tw8413108882318087932:True:=⟨⟩
theorem tw14280914185856997523:True:=⟨⟩
theorem tw3245193618563702863:True:=⟨⟩
theorem tw8178642435776067652:True:=⟨⟩
theorem tw2464123620428338018:True:=⟨⟩
theorem tw2036870137999562448:True:=⟨⟩
theorem tw1152500279940209871:True:=⟨⟩
theorem tw4638857578693326264:True:=⟨⟩
theorem tw17630957435635713411:True:=⟨⟩
theorem tw13423245627427058517:True:=⟨⟩
theorem tw12976189460357727965:True:=⟨⟩
theorem tw2526521977587149115:True:=⟨⟩
theorem tw10003324425298906162:True:=⟨⟩
theorem tw10292986017112937017:True:=⟨⟩
theorem tw16099308472887417252:True:=⟨⟩
theorem tw15834187201631752494:True:=⟨⟩
theorem tw8878116116017955201:True:=⟨⟩
theorem tw9681354061510444637:True:=⟨⟩
theorem tw11418133283262176922:True:=⟨⟩
theorem tw10859072470903542639:True:=⟨⟩
theorem tw942808300553032708:True:=⟨⟩
theorem tw5605731228335785541:True:=⟨⟩
theorem tw11077592267451808300:True:=⟨⟩
theorem tw16482247460081942031:True:=⟨⟩
theorem tw14022929478430091620:True:=⟨⟩
theorem tw7266451775994382281:True:=⟨⟩
theorem tw1709658855255924994:True:=⟨⟩
theorem tw6540741029448146247:True:=⟨⟩
theorem tw6508458361144286167:True:=⟨⟩
theorem tw2814913257045050917:True:=⟨⟩
theorem tw8397024879913149402:True:=⟨⟩
theorem tw17446462027390870285:True:=⟨⟩
theorem tw9912681771261980098:True:=⟨⟩
theorem tw16009177329593907266:True:=⟨⟩
theorem tw12833403742086683111:True:=⟨⟩
theorem tw1865499474038370092:True:=⟨⟩
theorem tw14456615150441552118:True:=⟨⟩
theorem tw14423860137833459309:True:=⟨⟩
theorem tw381507719761577714:True:=⟨⟩
theorem tw5753788805166642666:True:=⟨⟩
theorem tw14265196639486070212:True:=⟨⟩
theorem tw4756677484398604950:True:=⟨⟩
theorem tw1528830679901076329:True:=⟨⟩
theorem tw12317126079394202218:True:=⟨⟩
theorem tw5767386673149815013:True:=⟨⟩
theorem tw7789467548378542909:True:=⟨⟩
theorem tw14514952469323464665:True:=⟨⟩
theorem tw13268673120310101803:True:=⟨⟩
theorem tw8807206369986176317:True:=⟨⟩
theorem tw12451650816312188878:True:=⟨⟩
theorem tw16883046141221787257:True:=⟨⟩
theorem tw8425674630159796626:True:=⟨⟩
theorem tw6940279326011134912:True:=⟨⟩
theorem tw1560394670255165735:True:=⟨⟩
theorem tw4514954310248244164:True:=⟨⟩
theorem tw10879217171712196850:True:=⟨⟩
theorem tw13708575381558421198:True:=⟨⟩
theorem tw1350754594757708355:True:=⟨⟩
theorem tw16512317717009119304:True:=⟨⟩
theorem tw6940717285853820157:True:=⟨⟩
theorem tw14078280714159253316:True:=⟨⟩
theorem tw10023121872754983912:True:=⟨⟩
theorem tw3159488443957756915:True:=⟨⟩
theorem tw14662453845722016150:True:=⟨⟩
theorem tw6205918681550457186:True:=⟨⟩
theorem tw5462348783969444038:True:=⟨⟩
theorem tw5953288685667327894:True:=⟨⟩
theorem tw11994884804360784211:True:=⟨⟩
theorem tw18050359341757421748:True:=⟨⟩
theorem tw7715108972013462998:True:=⟨⟩
theorem tw3806425751529626611:True:=⟨⟩
theorem tw16593547160373156611:True:=⟨⟩
theorem tw10989933522225864077:True:=⟨⟩
theorem tw18292613980993558169:True:=⟨⟩
theorem tw13043934831259484671:True:=⟨⟩
theorem tw9115839272252689153:True:=⟨⟩
theorem tw3035580931088536568:True:=⟨⟩
theorem tw14430392498119936369:True:=⟨⟩
theorem tw10995541849436310967:True:=⟨⟩
theorem tw15053633193360099168:True:=⟨⟩
theorem tw11926549570562202805:True:=⟨⟩
theorem tw4765470818894011252:True:=⟨⟩
theorem tw17446260814576979576:True:=⟨⟩
theorem tw7866382760982532954:True:=⟨⟩
theorem tw749703719014842225:True:=⟨⟩
theorem tw6946920602334895043:True:=⟨⟩
theorem tw7858280116131637211:True:=⟨⟩
theorem tw2909177335595888852:True:=⟨⟩
theorem tw16892420529451495687:True:=⟨⟩
theorem tw11789260306594067704:True:=⟨⟩
theorem tw1990983886369165236:True:=⟨⟩
theorem tw4679450751014880694:True:=⟨⟩
theorem tw2968055277839537132:True:=⟨⟩
theorem tw934474173772855425:True:=⟨⟩
theorem tw13833630997119894632:True:=⟨⟩
theorem tw753879786912959406:True:=⟨⟩
theorem tw5022310038939438061:True:=⟨⟩
theorem tw7685029810921560166:True:=⟨⟩
theorem tw12224637821634334020:True:=⟨⟩
theorem tw16887111863282999963:True:=⟨⟩
theorem tw13512684030603729635:True:=⟨⟩
theorem tw17091539903880657034:True:=⟨⟩
theorem tw8615646334625173482:True:=⟨⟩
theorem tw1893898365274892993:True:=⟨⟩
theorem tw6700042883728577764:True:=⟨⟩
theorem tw10255525096098030474:True:=⟨⟩
theorem tw18074977896961777423:True:=⟨⟩
theorem tw12013192654216367423:True:=⟨⟩
theorem tw13935484644582187461:True:=⟨⟩
theorem tw1849083343111447865:True:=⟨⟩
theorem tw2609658562460693497:True:=⟨⟩
theorem tw4802781694128788496:True:=⟨⟩
theorem tw12021111784184980377:True:=⟨⟩
theorem tw496391880482310933:True:=⟨⟩
theorem tw9707688482319142920:True:=⟨⟩
theorem tw7295679535062808285:True:=⟨⟩
theorem tw721050185302260279:True:=⟨⟩
theorem tw14688908811033907171:True:=⟨⟩
theorem tw8247551573838590157:True:=⟨⟩
theorem tw14563230820848151312:True:=⟨⟩
theorem tw3544282126621805720:True:=⟨⟩
theorem tw1628645450883687610:True:=⟨⟩
theorem tw12536908628347673883:True:=⟨⟩
theorem tw4846344344644881103:True:=⟨⟩
theorem tw6236438218637385964:True:=⟨⟩
theorem tw11234030146619673318:True:=⟨⟩
theorem tw10374139593250063689:True:=⟨⟩
theorem tw10430598117512998086:True:=⟨⟩
theorem tw938486453101032168:True:=⟨⟩
theorem tw570393786876515231:True:=⟨⟩
theorem tw9587686515303337821:True:=⟨⟩
theorem tw12076600600654338446:True:=⟨⟩
theorem tw1449168269644173302:True:=⟨⟩
theorem tw5521920913695247207:True:=⟨⟩
theorem tw3939470885909937718:True:=⟨⟩
theorem tw6647186241591642496:True:=⟨⟩
theorem tw893496210082654636:True:=⟨⟩
theorem tw13267236864207842695:True:=⟨⟩
theorem tw15324146260298467818:True:=⟨⟩
theorem tw17409153002775496148:True:=⟨⟩
theorem tw15294782228063279447:True:=⟨⟩
theorem tw2394792980693703228:True:=⟨⟩
theorem tw15737095906196694947:True:=⟨⟩
theorem tw307532239702155660:True:=⟨⟩
theorem tw3102543194343030639:True:=⟨⟩
theorem tw15844300739260701527:True:=⟨⟩
theorem tw14635000784967779751:True:=⟨⟩
theorem tw6856458191811110432:True:=⟨⟩
theorem tw7473481220104974566:True:=⟨⟩
theorem tw15368674200444209327:True:=⟨⟩
theorem tw12897539414634395504:True:=⟨⟩
theorem tw10569038655059530269:True:=⟨⟩
theorem tw15382745400412594950:True:=⟨⟩
theorem tw520706489560268937:True:=⟨⟩
theorem tw16862844321581329993:True:=⟨⟩
theorem tw265845649886834428:True:=⟨⟩
theorem tw11855971401790829534:True:=⟨⟩
theorem tw17938098786059669740:True:=⟨⟩
theorem tw14882209548802862990:True:=⟨⟩
theorem tw3368055760820401060:True:=⟨⟩
theorem tw11910399416161106671:True:=⟨⟩
theorem tw7882776383156078020:True:=⟨⟩
theorem tw13001433099772440107:True:=⟨⟩
theorem tw13698648094106232319:True:=⟨⟩
theorem tw9519981679027604367:True:=⟨⟩
theorem tw13284668605296709708:True:=⟨⟩
theorem tw11157355546658808032:True:=⟨⟩
theorem tw1631495502556730666:True:=⟨⟩
theorem tw14837705835768542784:True:=⟨⟩
theorem tw9932953048918278009:True:=⟨⟩
theorem tw1486168644879798814:True:=⟨⟩
theorem tw12022355983413844969:True:=⟨⟩
theorem tw17005816406564067213:True:=⟨⟩
theorem tw8282695116206987928:True:=⟨⟩
theorem tw15838909541080444093:True:=⟨⟩
theorem tw12179203739068969842:True:=⟨⟩
theorem tw9247692479825245007:True:=⟨⟩
theorem tw542681700456520975:True:=⟨⟩
theorem tw9294371213706667029:True:=⟨⟩
theorem tw10606080662073834992:True:=⟨⟩
theorem tw10733956593068178385:True:=⟨⟩
theorem tw7741685526959239771:True:=⟨⟩
theorem tw3046399102553696078:True:=⟨⟩
theorem tw14627079578109085162:True:=⟨⟩
theorem tw17241889000061827620:True:=⟨⟩
theorem tw11624238424716316012:True:=⟨⟩
theorem tw6768909763001089350:True:=⟨⟩
theorem tw10542235110532416067:True:=⟨⟩
theorem tw13071599720740205816:True:=⟨⟩
theorem tw12670046071743311433:True:=⟨⟩
theorem tw3153066530094722741:True:=⟨⟩
theorem tw3252750492106026202:True:=⟨⟩
theorem tw11755911871468000744:True:=⟨⟩
theorem tw12994171815922056622:True:=⟨⟩
theorem tw2424919151816355607:True:=⟨⟩
theorem tw18407717917056195038:True:=⟨⟩
theorem tw3133332789346756506:True:=⟨⟩
theorem tw14147816230010268822:True:=⟨⟩
theorem tw4541716932968146633:True:=⟨⟩
theorem tw1381598327516622189:True:=⟨⟩
theorem tw14279466318467144270:True:=⟨⟩
theorem tw2195024738260303400:True:=⟨⟩
theorem tw2606922737626642659:True:=⟨⟩
theorem tw9836748768141103580:True:=⟨⟩
theorem tw14799995761922044770:True:=⟨⟩
theorem tw2393753983681158647:True:=⟨⟩
theorem tw14074945830039149270:True:=⟨⟩
theorem tw14348963410747442522:True:=⟨⟩
theorem tw17986936540784885046:True:=⟨⟩
theorem tw16837145867983024240:True:=⟨⟩
theorem tw8720583897274806537:True:=⟨⟩
theorem tw10047272941719230951:True:=⟨⟩
end PySem.W.Fast
open PySem PySem.W PyProof.Rows
set_option maxRecDepth 100000 in
set_option maxHeartbeats 0 in
theorem PySem.Challenge.cw_pastways_k30_places_holds : PySem.Challenge.rw_pastways_k30_places.Holds := by
 w_on;o_law;k_head;(case hw=>w_witness2)
 k_fill
 refine Sm.Kr (F:=Lw.prog) (wh:=100000) (n:=60) (f:=21) (x:="_law_script") (l:=PySem.Challenge.rw_pastways_k30_places) rfl rfl ⟨rfl,by decide,by decide⟩ (λw h Y=>PySem.W.kIn_of Y) Lw.good ?F
 case F=>
  intro w mg fa h KX G hmg
  refine' Lw.all_mk KX G hmg ⟨?a0,L2.cg ?l0 ?c0 ?k0⟩ ⟨?a1,L2.cg ?l1 ?c1 ?k1⟩ ⟨?a2,L2.cg ?l2 ?c2 ?k2⟩ ⟨?a3,L2.cg ?l3 ?c3 ?k3⟩ ⟨?a4,L2.cg ?l4 ?c4 ?k4⟩ ⟨?a5,L2.cg ?l5 ?c5 ?k5⟩ ⟨?a6,L2.cg ?l6 ?c6 ?k6⟩ ⟨?a7,L2.cg ?l7 ?c7 ?k7⟩ ⟨?a8,L2.cg ?l8 ?c8 ?k8⟩ ⟨?a9,L2.cg ?l9 ?c9 ?k9⟩ ⟨?Y0,L2.cg ?Y3 ?Y4 ?Y5⟩ ⟨?Y6,L2.cg ?Y7 ?Y8 ?Y9⟩ ⟨?Za,L2.cg ?Zb ?c12 ?Zc⟩ ⟨?Zd,L2.cg ?Ze ?Zf ?Zg⟩ ⟨?Zh,L2.cg ?Zi ?Zj ?Zk⟩ ⟨?Zl,L2.cg ?Zm ?Zn ?Zo⟩ ⟨?Zp,L2.cg ?Zq ?Zr ?Zs⟩ ⟨?Zt,L2.cg ?Zu ?Zv ?Zw⟩ ⟨?Zx,L2.cg ?Zy ?Zz ?ZA⟩ ⟨?ZC,L2.cg ?ZD ?ZE ?ZF⟩ ⟨?ZG,L2.cg ?ZH ?ZI ?ZJ⟩ ⟨?ZK,L2.cg ?ZL ?ZM ?ZN⟩ ⟨?ar,L2.cg ?lr ?cr ?kr⟩ ?xw (Sm.o8 ?ZO ?ZP ?ZQ ?ZR ?ZS ?ZT) (Sm.o8 ?ZU ?ZV ?ZW ?ZX ?ZY ?ZZ) (Sm.o8 ?Z0 ?Z1 ?Z2 ?Z3 ?Z4 ?Z5) (Sm.o8 ?Z6 ?Z7 ?Z8 ?Z9 ?xm3 ?xf3) ?z0 ?z1 ?z2 ?z3 ?z4 ?z5 ?z6 ?z7 ?z8 ?z9 ?UZ ?q0 ?U0 ?U1 ?U3;all_goals try first|k_is|rfl|decide +kernel | (with_unfolding_all rfl)
  all_goals kernel_rfl

import PyProof.Rows.All
import Wide.All
import OpenK.AllK
import Wide.FinOn
import Lean
import PyProof.EqAt
import PyProof.EqKinds
import PyProof.TupleCall
import PyProof.NeKinds
import PyProof.StrLawsIn
import KE.KRevSl
import PyProof.ZipIter
import PyProof.ListRange
import PyProof.Rows.SortStr
import KE.KRevIter
import PyProof.EnumMake
import PyProof.EnumFor
import KE.KIntText
import PyProof.CallStr
import PySem.Challenge.RW_pastways_k72_ledgers
local macro_rules|`(tactic|decide)=>`(tactic|decide +kernel)
local macro_rules|`(command|def $i:declId $s:optDeclSig $v:declVal)=>`(command|noncomputable def $i:declId $s:optDeclSig $v:declVal)|`(command|abbrev $i:declId $s:optDeclSig $v:declVal)=>`(command|@[reducible]noncomputable def $i:declId $s:optDeclSig $v:declVal)
theorem gL{l:List α}{i:Nat}(h:l[i]?=some a):∃h:i<l.length,l[i]=a:=List.getElem?_eq_some_iff.mp h
theorem gN{x:Option α}(h:x.isSome=true):∃a,x=some a:=Option.isSome_iff_exists.mp h
theorem kA{x:Option α}{f:α->Option β}(h:x.bind f=some b):∃a,x=some a/\f a=some b:=Option.bind_eq_some_iff.mp h
abbrev Γ:=List (List Nat)
abbrev Θ:=List Nat
abbrev Ξ:=PySem.Value->PySem.Shared->Prop
abbrev Φ:=PySem.W.Frag
abbrev Ψ:=List (PySem.Addr×PySem.Obj)
abbrev Ω:=Nat->Prop
abbrev X9:=List PySem.Str
abbrev Y1:=List PySem.Addr
abbrev Y2:=List PySem.Value
abbrev W1:=PySem.Str->Option PySem.Value
abbrev Q1:=List Int
abbrev Kx:=List PySem.Expr
local macro_rules|`(tactic|exists $e:term)=>`(tactic|(injection $e:term<;>subst_vars))|`(tactic|exists $e:term,$f:term)=>`(tactic|with_reducible show $e _ _ _ _ _ _ $f _)
theorem kS{f:α->β}{x:Option α}(h:x.map f=some b):∃a,x=some a/\f a=b:=Option.map_eq_some_iff.mp h
theorem k8{a:α}{l m:List α}(h:a∈l++m):a∈l\/a∈m:=List.mem_append.mp h
theorem qE{a b:α}{l:List α}(h:a∈b::l):a=b\/a∈l:=List.mem_cons.mp h
abbrev qN(e:PySem.Expr)(s:List PySem.Expr)(v:PySem.Env):Prop:=PySem.starEach (e :: s) v=(false,PySem.eval e v) :: PySem.starEach s v
abbrev qW(p:PySem.Pos)(s:List PySem.Expr)(v:PySem.Env):Prop:=(PySem.backTo p (PySem.starEach s v)).any (·.1)=false
abbrev q3(e:PySem.Expr)(f:PySem.Str)(v:PySem.Env):Prop:=PySem.attributeBase e f v (PySem.eval e v)=PySem.eval e v
set_option bootstrap.genMatcherCode false
set_option compiler.extract_closed false
set_option maxHeartbeats 4000000
noncomputable section
set_option Elab.async false
set_option linter.all false
set_option maxRecDepth 100000
def gV:=@PySem.wpAny_bind
def jk:=@List.getElem?_append_left
def Bg:=@Bool.and_eq_true
def OL:=@if_pos
def T7:=@List.getElem?_set_ne
def VW:=@List.getElem?_eq_getElem
def WU:=@Nat.lt_of_lt_of_le
def WV:=@List.getElem?_set_self
def ZJ:=@Option.map_eq_some_iff
def ZM:=@PySem.wpAny_pure
def aaa:=@PySem.Heap.get?_push_of_some
def aab:=@Option.bind_eq_some_iff
def aaz:=@List.size_toArray
def aaB:=@Nat.le_refl
def aaC:=@List.mem_of_getElem?
def aaD:=@List.map_cons
def aaE:=@List.length_append
def aaF:=@PySem.Heap.lt_size
def aaG:=@List.map_append
def aaH:=@if_neg
def aaI:=@List.length_cons
def aaJ:=@List.append_nil
def aaK:=@List.replicate_succ
def aaL:=@congrArg
def aaM:=@List.mem_cons_of_mem
def aaN:=@Nat.le_trans
def aaO:=@List.getElem?_eq_none
def aaP:=@List.length_map
def aaQ:=@PySem.Heap.get?_push_size
def aaR:=@decide_eq_false
def aaS:=@List.filterMap_cons
def aaT:=@List.reverse_cons
def aaU:=@List.getElem?_map
def aaV:=@Nat.ne_of_lt
def aaW:=@List.cons_append
def aaX:=@List.append_assoc
def aaY:=@List.getElem?_append_right
def aaZ:=@PySem.wpAny_mono
def aa0:=@if_true
def aa1:=@PySem.W.mg_none_of
def aa2:=@List.mem_singleton
def aa3:=@List.mem_append_right
def aa4:=@List.mem_cons_self
def aa5:=@Bool.false_ne_true
def aa6:=@Nat.lt_irrefl
def aa7:=@of_decide_eq_true
def aa8:=@PySem.F.plainAttrs_list
def aa9:=@List.drop_drop
def aba:=@List.foldl_cons
def abb:=@List.take_of_length_le
def abc:=@decide_eq_true_eq
def abd:=@Bool.not_eq_true'
def abe:=@List.length_singleton
def abf:=@List.eq_nil_or_concat
def abg:=@List.concat_eq_append
def abh:=@PySem.AutoSeq1.wpAny_loadPart'
def abi:=@Option.some.inj
def abj:=@Bool.or_eq_true
def abk:=@List.length_take
def abl:=@List.mem_append_left
def abm:=@PySem.W.mg_of
def abn:=@decide_eq_true
def abo:=@PySem.wpAny_ite_split
def abp:=@PySem.wpAny_newObj_type
def abq:=@List.take_succ_cons
def abr:=@List.dropLast_eq_take
def abt:=@PyProof.Rows.slot_tuple_getitem
def abu:=@Nat.zero_le
def abv:=@List.ext_getElem?
def abw:=@List.lookup_cons
def abx:=@PySem.wpAny_field
def aby:=@List.drop_eq_nil_of_le
def abz:=@PySem.wpAny_Call_Name_kw
def abA:=@of_decide_eq_false
def abB:=@Bool.false_eq_true
def abC:=@PyProof.Rows.callWith_type1
def abD:=@PySem.wpAny_passesOwn
def abE:=@PySem.Heap.get?_update_self
def abF:=@PySem.Calls.Name_function_global
def abG:=@List.mem_of_mem_drop
def abH:=@PySem.wpAny_of_eq
def abI:=@PyProof.Rows.len_str
def abJ:=@Ne.symm
def abK:=@PySem.wpAny_call_entry
def abL:=@PySem.mem_of_lookup
def abM:=@List.getElem?_range
def abN:=@PySem.wpAny_callSpecial?_slot
def abO:=@PySem.call_meets
def abP:=@Option.isSome_some
def abQ:=@PySem.sizeLine_eq
def abR:=@PySem.Heap.get?_update_other
def abS:=@PySem.wpAny_truthy_bool
def abT:=@PySem.codeAny_mono
def abU:=@Nat.add_comm
def abV:=@List.drop_zero
def abW:=@PySem.W.methodCall_KW
def abX:=@PySem.wpAny_execs_cons
def abY:=@Nat.lt_succ_self
def abZ:=@List.filter_cons
def ab0:=@PySem.wpAny_holding
def ab1:=@PySem.wpAny_attempt
def ab3:=@List.map_take
def ab4:=@List.map_drop
def ab5:=@Option.bind_eq_bind
def ab6:=@Array.length_toList
def ab7:=@PySem.wpAny_specialOf
def ab8:=@PySem.wpAny_execs_nil
def ab9:=@List.range_succ
def acd:=@List.mem_append
def ace:=@List.drop_eq_getElem_cons
def acf:=@PySem.W.callWith_K
def acg:=@PySem.Obj.data_mapFields
def ach:=@Nat.lt_of_le_of_lt
def aci:=@PySem.Calls.spliced_cons
def acj:=@PySem.F.type_list_append
def ack:=@PySem.F.slot_list_append
def acm:=@PySem.F.args_tuple_mul_2
def acn:=@PySem.F.args_tuple_add_2
def aco:=@PySem.wpAny_call
def acp:=@PySem.F.entry_tuple_mul
def acq:=@PySem.F.entry_tuple_add
def acr:=@PySem.Calls.loadGlobal_global
def acs:=@Option.some.injEq
def acu:=@List.foldl_append
def acv:=@Int.toNat_natCast
def acw:=@Function.comp_def
def acy:=@PySem.Calls.spliced_nil
def acz:=@PySem.wpAny_Call_method_late
def acA:=@PySem.W.cellsFrom_some
def acB:=@PySem.F.slot_tuple_mul
def acC:=@PySem.F.slot_tuple_add
def acD:=@Nat.add_assoc
def acE:=@if_false
def acF:=@List.length_drop
def acG:=@List.map_map
def acH:=@List.of_mem_zip
def acI:=@List.nodup_cons
def acJ:=@List.length_nil
def acK:=@Bool.eq_iff_iff
def acL:=@List.getElem?_modify
def acM:=@List.take_append_of_le_length
def acN:=@PySem.W.plainGet_of
def acO:=@List.drop_succ_cons
def acP:=@PySem.Heap.SameBut.update
def acQ:=@Nat.mul_le_mul
def acR:=@Nat.add_sub_cancel
def acS:=@List.filter_append
def acT:=@List.filterMap_nil
def acU:=@PySem.wpAny_newFunctionEnv_cells
def acV:=@List.getD_eq_getElem?_getD
def acW:=@PySem.wpAny_Return_some
def acX:=@List.flatten_cons
def acY:=@PySem.wpAny_rule
def acZ:=@PySem.typeIs_int
def ac0:=@PySem.wpAny_binaryOp_repeat_ref
def ac1:=@List.getElem?_eq_none_iff
def ac2:=@Array.getElem?_eq_getElem
def ac3:=@PySem.wpAny_typeOf
def ac4:=@PySem.W.looks_findIn
def ac5:=@List.map_nil
def ac6:=@Int.zero_add
def ac7:=@PySem.wpAny_isInstance
def ac8:=@PySem.noFill_tuple_add
def ac9:=@Option.bind_some
def ada:=@Nat.min_eq_right
def adb:=@List.drop_length
def ade:=@List.append_inj'
def adf:=@PySem.AutoSeq1.idx_int
def adg:=@PySem.wpAny_comprehension_free
def adh:=@List.getElem?_take_of_lt
def adi:=@decide_eq_false_iff_not
def adj:=@List.getElem?_replicate
def adk:=@PySem.wpAny_updateSeq
def adl:=@Nat.min_eq_left
def adm:=@List.head?_drop
def adn:=@List.range_succ_eq_map
def ado:=@PySem.wpAny_setField
def adp:=@List.tail_drop
def adq:=@PySem.Heap.size_push
def ads:=@PySem.F.type_list_pop
def adt:=@PySem.F.slot_list_pop
def adu:=@PySem.F.slot_int_rmul
def adv:=@List.take_append_drop
def adw:=@List.singleton_append
def adx:=@List.length_replicate
def ady:=@PySem.wpAny_Name
def adz:=@beq_iff_eq
def adA:=@List.getLast?_append
def adB:=@List.getElem_toArray
def adC:=@List.getElem?_of_mem
def adD:=@List.mem_cons
def adE:=@PySem.W.callWith_K0
def adF:=@Nat.sub_lt_sub_left
def adG:=@List.flatMap_append
def adH:=@Nat.ne_of_gt
def adI:=@Nat.le_of_lt
def adJ:=@PySem.W.codeRec_of
def adK:=@Int.emod_lt_of_pos
def adL:=@Nat.le_succ
theorem zS{a b:Bool}{p:Prop}(h:a=b)(q:a≠b:=by decide):p:=absurd h q
namespace L2
open PySem PySem.Spec PyProof.Rows
abbrev Key:=Sum Int Str
def Kv:Key->Value->Bool
 |.inl k,v=>Value.isInt k v
 |.inr x,v=>Value.isStrOf x v
def Yz(w:World):Key->Int
 |.inl k=>hashInt k
 |.inr x=>hashStr w x
def eZ:∀{k:Key}{v:Value},Kv k v=true->(∃i t,k=Sum.inl i/\v=Value.int i t)\/(∃x t,k=Sum.inr x/\v=Value.str x t)
 |.inl i,v,h=>by
  obtain⟨t,e⟩:=Value.isInt_shape h;exact .inl ⟨i,t,rfl,e⟩
 |.inr x,v,h=>by
  obtain⟨t,e⟩:=Value.isStrOf_shape h;exact .inr ⟨x,t,rfl,e⟩
def O8(a b:Int):decide ((Sum.inl a:Key)=Sum.inl b)=(a==b):=by
 by_cases e:a=b
 .subst e;simp
 .have h:¬ (Sum.inl a:Key)=Sum.inl b:=λq=>e (Sum.inl.inj q);rw[aaR h];exact(beq_eq_false_iff_ne.mpr e).symm
def O9(a b:Str):decide ((Sum.inr a:Key)=Sum.inr b)=decide (a=b):=by
 by_cases e:a=b
 .simp
 .have h:¬ (Sum.inr a:Key)=Sum.inr b:=λq=>e (Sum.inr.inj q);rw[aaR h,aaR e]
def Pa(a:Int)(b:Str):decide ((Sum.inl a:Key)=Sum.inr b)=false:=aaR (λq=>nomatch q)
def Pb(a:Str)(b:Int):decide ((Sum.inr a:Key)=Sum.inl b)=false:=aaR (λq=>nomatch q)
def wF(prog:Program)(w:World):PySem.KeyKind prog w Key where
 is:=Kv
 hash:=Yz w
 inj:=λv a b g f=>by
  rcases eZ g with ⟨i,t,rfl,rfl⟩|⟨x,t,rfl,rfl⟩
  .rcases eZ f with ⟨j,u,rfl,e⟩|⟨y,u,rfl,e⟩
   .injection e with c _;rw[c]
   .exact nomatch e
  .rcases eZ f with ⟨j,u,rfl,e⟩|⟨y,u,rfl,e⟩
   .exact nomatch e
   .injection e with c _;rw[c]
 byValue:=λk v h=>by
  rcases eZ h with ⟨i,t,rfl,rfl⟩|⟨x,t,rfl,rfl⟩<;>rfl
 pyHash:=λd h=>by
  rcases eZ d with ⟨i,t,rfl,rfl⟩|⟨x,t,rfl,rfl⟩
  .exact wpAny_pyHash_int h
  .exact wpAny_pyHash_str h
 eqBool:=λp d h=>by
  rcases eZ p with ⟨i,t,rfl,rfl⟩|⟨x,t,rfl,rfl⟩
  .rcases eZ d with ⟨j,u,rfl,rfl⟩|⟨y,u,rfl,rfl⟩
   .rw[O8]at h;exact wpAny_eqBool_int h
   .rw[Pa]at h;exact SeqAt.EqAt.int_str i t y u _ _ _ _ h
  .rcases eZ d with ⟨j,u,rfl,rfl⟩|⟨y,u,rfl,rfl⟩
   .rw[Pb]at h;exact SeqAt.EqAt.str_int x t j u _ _ _ _ h
   .rw[O9]at h;exact wpAny_eqBool_str h
 «strs»:=λk x t v h=>by
  rcases eZ h with ⟨i,u,rfl,e⟩|⟨y,u,rfl,e⟩
  .exact nomatch e
  .injection e with c _
   subst c;cases v<;>rfl
inductive V where
 |aN|bl (b:Bool)|int (i:Int)|str (x:Str)|qC (b:Array UInt8)|Kw (b:UInt64)|ref (a:Addr)|ty (n:String)
 deriving DecidableEq
abbrev _root_.T1:=List V
def RelV:V->Value->Prop
 |.aN,u=>u=Value.none
 |.bl b,u=>u=Value.bool b
 |.int i,u=>∃t,u=Value.int i t
 |.str x,u=>∃t,u=Value.str x t
 |.qC b,u=>∃t,u=Value.bytes b t
 |.Kw b,u=>∃t,u=Value.float b t
 |.ref a,u=>u=Value.ref a
 |.ty n,u=>u=Value.type n
abbrev Vals:List V->List Value->Prop:=Paired RelV
theorem Vals.length(r:Vals xs us):xs.length=us.length:=Paired.length r
theorem Vals.get:∀{xs:T1}{us:Y2}{i:Nat}{x:V},Vals xs us->xs[i]?=some x->∃u,us[i]?=some u/\RelV x u
 |_,_,_,_,.nil,e=>by simp at e
 |_,_,0,_,.cons r _,e=>by simp at e;subst e;exact⟨_,rfl,r⟩
 |_,_,i+1,x,.cons _ t,e=>by
  obtain⟨u,a,b⟩:=Vals.get t (by simpa using e);exact⟨u,by simpa using a,b⟩
theorem Vals.append:∀{xs z:T1}{us I:Y2},Vals xs us->Vals z I->Vals (xs++z) (us++I)
 |_,_,_,_,.nil,s=>s
 |_,_,_,_,.cons r t,s=>.cons r (Vals.append t s)
theorem Vals.take:∀{xs:T1}{us:Y2}(n:Nat),Vals xs us->Vals (xs.take n) (us.take n)
 |_,_,0,_=>.nil
 |_,_,_+1,.nil=>.nil
 |_,_,n+1,.cons r t=>.cons r (Vals.take n t)
theorem Vals.drop:∀{xs:T1}{us:Y2}(n:Nat),Vals xs us->Vals (xs.drop n) (us.drop n)
 |_,_,0,r=>r
 |_,_,_+1,.nil=>.nil
 |_,_,n+1,.cons _ t=>Vals.drop n t
def oK:Option V->Option Value->Prop
 |some v,some u=>RelV v u
 |none,none=>True
 |_,_=>False
def KV{κ:Type}:List (κ×V)->List (κ×Value)->Prop:=Paired λ(p:κ×V) (q:κ×Value)=>p.1=q.1/\RelV p.2 q.2
def kV:Key->V
 |.inl i=>.int i
 |.inr x=>.str x
inductive HO where
 |lst (xs:T1)
 |tup (xs:T1)
 |dK (kvs:List (Key×V))|dT (kvs:List (List Key×V))
 |set (S:Int->Bool) (n:Nat)
 |ins (C dx:Addr) (fs:List (Str×V))
 |own (x:Addr)
 |xd (fs:List (Str×V))
 |met (f x:Addr)
 |kI (lo hi:Int)
 |bY (o:Obj) (u:HO)
 |xX (ps:Array Value)
 |ext (φ:Heap->Prop)
abbrev Hp:=Addr->Option HO
def upd(H:Hp)(a:Addr)(o:HO):Hp:=λb=>if b=a then some o else H b
def bU:upd H a o a=some o:=by unfold upd;rw[OL rfl]
def aQ(h:b≠a):upd H a o b=H b:=by unfold upd;rw[aaH h]
def mj{H:Hp}(h:H a=some o)(h':H b=some u)(d:o≠u):a≠b:=by
 intro e;subst e;rw[h]at h';exact d (abi h')
def bH{H:Hp}(h:H a=some o)(h':H b=none):a≠b:=by
 intro e;subst e;rw[h]at h';exists h'
section
variable(P:Program)(w:World)
def gF(H:Hp)(h:Heap)(a:Addr):HO->Prop
 |.lst xs=>xs.length<=sizeLine/\∃(its:Y2) (n:Nat),Vals xs its/\h.get? a=some { cls:=.type "list",data:=.seq its.toArray n }
 |.tup xs=>xs.length<=sizeLine/\∃its:Y2,Vals xs its/\IsTup h a its.toArray
 |.dK b=>b.length<=sizeLine/\(a==sysModules)=false/\∃vs,KV b vs/\h.DictOf (wF P w) a vs
 |.dT b=>b.length<=sizeLine/\(a==sysModules)=false/\∃xs:List (List Key×Addr×Value),
   Paired (λ(p:List Key×V) (q:List Key×Addr×Value)=>p.1=q.1/\H q.2.1=some (.tup (p.1.map kV))/\RelV p.2 q.2.2) b xs/\
   ∃o es ep,h.get? a=some o/\o.ExactDict/\o.data=.dict es ep/\es.toList=xs.map (entryOfKey (tupleKind (wF P w)))/\(xs.map (·.1)).Nodup
 |.set S n=>h.SetOf (intKind P w) a S n
 |.ins C c fs=>H c=some (.own a)/\fs.length<=1000/\c≠a/\h.get? a=some (W.instObj C c)/\
   ∃mA,h.Ns1 c mA/\(∀f,oK (fs.lookup f) (mA f))/\PySem.Within mA (fs.map (·.1))
 |.own _=>∃o,h.get? a=some o
 |.xd fs=>∃mA,h.Ns1 a mA/\∀f,oK (fs.lookup f) (mA f)
 |.kI d e=>∃t u v,h.get? a=some { cls:=.type "range",data:=.fields #[.int d t,.int e u,.int 1 v]}
 |.bY o u=>h.get? a=some o/\gF H h a u
 |.xX ps=>h.get? a=some { cls:=.none,data:=.fields ps }
 |.met f x=>h.get? a=some (W.methodObj (.ref f) (.ref x))
 |.ext φ=>φ h/\(∃o,h.get? a=some o)/\∀h1 h2:Heap,φ h1->(∀o,h1.get? a=some o->h2.get? a=some o)->φ h2
def gA(H:Hp)(h:Heap):Prop:=∀a o,H a=some o->gF P w H h a o
end
section
variable{P:Program}{w:World}{H H':Hp}{h h':Heap}{a:Addr}{o:HO}
theorem gF.lt(x:gF P w H h a o):a<h.objs.size:=by
 cases o with
 |lst xs=>obtain⟨_,_,_,_,e⟩:=x;exact aaF e
 |tup xs=>obtain⟨_,_,_,p⟩:=x;exact p.lt
 |dK b=>obtain⟨_,_,_,_,o,_,_,e,_⟩:=x;exact aaF e
 |dT b=>obtain⟨_,_,_,_,o,_,_,e,_⟩:=x;exact aaF e
 |set S n=>obtain⟨o,_,_,_,e,_⟩:=x;exact aaF e
 |ins C c fs=>obtain⟨_,_,_,e,_⟩:=x;exact aaF e
 |own y=>obtain⟨_,e⟩:=x;exact aaF e
 |xd fs=>obtain⟨_,⟨_,_,_,e,_⟩,_⟩:=x;exact aaF e
 |kI d g=>obtain⟨_,_,_,e⟩:=x;exact aaF e
 |bY j u=>obtain⟨e,_⟩:=x;exact aaF e
 |xX ps=>exact aaF (show h.get? a=some _ from x)
 |met f y=>exact aaF (show h.get? a=some _ from x)
 |ext φ=>obtain⟨_,⟨_,e⟩,_⟩:=x;exact aaF e
theorem Paired.Pc{α β:Type}{F G:α->β->Prop}:∀{z:List α}{I:List β},Paired F z I->(∀a b,F a b->G a b)->Paired G z I
 |_,_,.nil,_=>.nil
 |_,_,.cons r t,f=>.cons (f _ _ r) (Paired.Pc t f)
def gF.stay(x:gF P w H h a o)(k:∀b u,(b=a\/H b=some (.own a))->h.get? b=some u->h'.get? b=some u)(ho:∀b,H b=some (.own a)->H' b=some (.own a))(Z:∀b xs,H b=some (.tup xs)->H' b=some (.tup xs)):gF P w H' h' a o:=by
 induction o with
 |lst xs=>obtain⟨z,B,n,r,e⟩:=x;exact⟨z,B,n,r,k _ _ (.inl rfl) e⟩
 |tup xs=>obtain⟨z,B,r,g,e,c⟩:=x;exact⟨z,B,r,g,k _ _ (.inl rfl) e,c⟩
 |dK F=>obtain⟨z,y,K,r,g,j,A,e,c⟩:=x;exact⟨z,y,K,r,g,j,A,k _ _ (.inl rfl) e,c⟩
 |dT F=>
  obtain⟨z,y,xs,r,g,j,A,e,c⟩:=x;exact⟨z,y,xs,Paired.Pc r λp q z=>⟨z.1,Z _ _ z.2.1,z.2.2⟩,g,j,A,k _ _ (.inl rfl) e,c⟩
 |set S n=>obtain⟨g,j,A,t,e,c⟩:=x;exact⟨g,j,A,t,k _ _ (.inl rfl) e,c⟩
 |ins C Q fs=>
  obtain⟨d,z,L,e,G,⟨I,j,A,M,c⟩,r⟩:=x;exact⟨ho _ d,z,L,k _ _ (.inl rfl) e,G,⟨I,j,A,k _ _ (.inr d) M,c⟩,r⟩
 |own y=>obtain⟨g,e⟩:=x;exact⟨g,k _ _ (.inl rfl) e⟩
 |xd fs=>obtain⟨G,⟨I,j,A,e,c⟩,r⟩:=x;exact⟨G,⟨I,j,A,k _ _ (.inl rfl) e,c⟩,r⟩
 |kI W X=>obtain⟨t,u,v,e⟩:=x;exact⟨t,u,v,k _ _ (.inl rfl) e⟩
 |bY g u N=>obtain⟨e,q⟩:=x;exact⟨k _ _ (.inl rfl) e,N q⟩
 |xX ps=>
  have e:=x;exact k a _ (.inl rfl) e
 |met f y=>
  have e:=x;exact k a _ (.inl rfl) e
 |ext φ=>obtain⟨p,⟨o,e⟩,J⟩:=x;exact⟨J _ _ p λo q=>k _ _ (.inl rfl) q,⟨o,k _ _ (.inl rfl) e⟩,J⟩
theorem gA.lt(x:gA P w H h)(e:H a=some o):a<h.objs.size:=(x a o e).lt
def gA.fresh(x:gA P w H h)(e:h.objs.size<=a):H a=none:=by
 cases q:H a with
 |none=>rfl
 |some u=>exact absurd (WU (x.lt q) e) (aa6 _)
def gA.kept(x:gA P w H h)(k:∀b u,h.get? b=some u->h'.get? b=some u):gA P w H h':=λa o e=>
 (x a o e).stay (λb u _ q=>k b u q) (λ_ q=>q) λ_ _ q=>q
def gA.laid(x:gA P w H h)(k:∀b u,h.get? b=some u->h'.get? b=some u)(z:h.objs.size<=a)(new:gF P w (upd H a o) h' a o):gA P w (upd H a o) h':=λb u e=>by
 have d:=x.fresh z;by_cases f:b=a
 .subst f;rw[bU]at e;exists e;exact new
 .rw[aQ f]at e;exact(x b u e).stay (λc v _ q=>k c v q) (λc q=>by rw[aQ (bH q d)];exact q) λc xs q=>by rw[aQ (bH q d)];exact q
end
def Rd(H:Hp)(a:Addr)(u:HO):Prop:=H a=some u\/∃o,H a=some (.bY o u)
def Rd.ok(r:Rd H a u)(x:gA P w H h):gF P w H h a u:=by
 rcases r with r|⟨o,r⟩
 .exact x a u r
 .obtain⟨_,q⟩:=x a _ r;exact q
def Ky:Option HO->Prop
 |some (.lst _)=>True
 |some (.dK _)=>True
 |some (.dT _)=>True
 |some (.set _ _)=>True
 |some (.ins _ _ _)=>True
 |some (.ext _)=>True
 |_=>False
section
variable{P:Program}{w:World}{H:Hp}{h h':Heap}{x e:Addr}{o':HO}
def gA.write(ok:gA P w H h)(I:Ky (H x))(Z:e=x\/H e=some (.own x))(k:∀b u,b≠e->h.get? b=some u->h'.get? b=some u)(BF:∃u,h'.get? e=some u)(new:gF P w (upd H x o') h' x o'):gA P w (upd H x o') h':=λb u q=>by
 have Pd:∀c y,H c=some (.own y)->c≠x:=λc y r z=>by subst z;rw[r]at I;exact I
 have YA:∀c xs,H c=some (.tup xs)->c≠x:=λc xs r z=>by subst z;rw[r]at I;exact I
 by_cases a:b=x
 .subst a;rw[bU]at q;exists q;exact new
 .rw[aQ a]at q;by_cases d:b=e
  .have g:H b=some (.own x):=by
    rcases Z with z|z
    .exact absurd (d.trans z) a
    .rw[d];exact z
   rw[q]at g;cases g;obtain⟨v,j⟩:=BF;exact⟨v,by rw[d];exact j⟩
  .refine(ok b u q).stay (λc v f r=>k c v ?_ r) (λc r=>by rw[aQ (Pd c b r)];exact r) λc xs r=>by rw[aQ (YA c xs r)];exact r
   rcases f with rfl|f
   .exact d
   .rintro rfl;rcases Z with z|z
    .exact Pd c b f z
    .rw[f]at z;cases z;exact a rfl
end
structure Un(fs ex:Y1)(H H':Hp)(h h':Heap):Prop where
 keep:∀b o,h.get? b=some o->H b=none->b∉fs->b∉ex->h'.get? b=some o
 slot:∀b o,h.get? b=some o->H b=none->b∈fs->b∉ex->∃sl,h'.get? b=some { o with slots:=sl }
 free:∀b o,h.get? b=some o->H b=none->b∉ex->H' b=none
 there:∀b o,h.get? b=some o->b∉ex->∃o',h'.get? b=some o'
 tups:∀b xs,H b=some (.tup xs)->H' b=some (.tup xs)
 mY:∀b o u,H b=some (.bY o u)->H' b=some (.bY o u)
 oM:∀b ps,H b=some (.xX ps)->∃more,H' b=some (.xX (ps++more))
section
variable{fs ex:Y1}{H H1:Hp}{h h1 h':Heap}{a x e:Addr}{o:HO}
def Un.any(u:Un fs ex H H1 h h1)(q:h.get? b=some ob)(n:H b=none)(z:b∉ex):∃sl,h1.get? b=some { ob with slots:=sl }:=by
 by_cases c:b∈fs
 .exact u.slot b ob q n c z
 .exact⟨ob.slots,u.keep b ob q n c z⟩
def Un.kept(k:∀b u,h.get? b=some u->h'.get? b=some u):Un fs ex H H h h':=
 ⟨λb c q _ _ _=>k b c q,λb c q _ _ _=>⟨c.slots,k b c q⟩,λ_ _ _ n _=>n,λb c q _=>⟨c,k b c q⟩,λ_ _ q=>q,λ_ _ _ q=>q,λ_ ps q=>⟨#[],by rw[q];simp⟩⟩
def Un.refl:Un fs ex H H h h:=Un.kept λ_ _ q=>q
def Un.laid(k:∀b u,h.get? b=some u->h'.get? b=some u)(z:h.objs.size<=a)(hn:H a=none):Un fs ex H (upd H a o) h h' where
 keep:=λb u q _ _ _=>k b u q
 slot:=λb u q _ _ _=>⟨u.slots,k b u q⟩
 free:=λb u q n _=>by rw[aQ (aaV (WU (aaF q) z))];exact n
 there:=λb u q _=>⟨u,k b u q⟩
 tups:=λb xs q=>by rw[aQ (bH q hn)];exact q
 mY:=λb u xs q=>by rw[aQ (bH q hn)];exact q
 oM:=λb ps q=>⟨#[],by rw[aQ (bH q hn),q];simp⟩
def Un.write(I:Ky (H x))(Z:e=x\/H e=some (.own x))(k:∀b u,b≠e->h.get? b=some u->h'.get? b=some u)(BF:∃u,h'.get? e=some u):Un fs ex H (upd H x o) h h':=by
 have d:∀b,H b=none->b≠x:=λb n z=>by subst z;rw[n]at I;exact I
 have f:∀b,H b=none->b≠e:=λb n z=>by
  subst z;rcases Z with r|r
  .exact d b n r
  .rw[n]at r;exists r
 have c:∀b u,H b=some u->¬ Ky (some u)->b≠x:=λb u q j z=>by subst z;rw[q]at I;exact j I
 refine⟨λb u q n _ _=>k b u (f b n) q,λb u q n _ _=>⟨u.slots,k b u (f b n) q⟩,λb u q n _=>by rw[aQ (d b n)];exact n,λb u q _=>?_,
  λb xs q=>by rw[aQ (c b _ q λz=>z)];exact q,λb u xs q=>by rw[aQ (c b _ q λz=>z)];exact q,λb ps q=>⟨#[],by rw[aQ (c b _ q λz=>z),q];simp⟩⟩
 by_cases g:b=e
 .subst g;exact BF
 .exact⟨u,k b u g q⟩
end
def Kz(h:Heap)(H:Hp):Y1:=(List.range h.objs.size).filter λa=>(H a).isSome
def pR(h:Heap)(H:Hp):Heap:=W.hideAll h (Kz h H)
def EN(h:Heap)(H:Hp):(pR h H).objs.size=h.objs.size:=W.hideAll_size _ _
def Ig(e:h.get? b=some o)(n:H b=none):(pR h H).get? b=some o:=
 W.hideAll_get _ e λa=>by
  have q:=(List.mem_filter.mp a).2;rw[n]at q;simp at q
def Mw(e:(pR h H).get? b=some o):h.get? b=some o/\H b=none:=by
 have a:=W.of_hideAll (Kz h H) e;refine⟨a,?_⟩;cases q:H b with
 |none=>rfl
 |some x=>
  have c:b∈Kz h H:=List.mem_filter.mpr ⟨List.mem_range.mpr (aaF a),by simp[q]⟩;have z:(pR h H).get? b=none:=W.hideAll_none (Kz h H) c;rw[z]at e;exists e
def Mx(g h:Heap)(L:Addr):Ψ:=(List.range h.objs.size).filterMap λa=>if a=L\/(g.get? a).isSome=true then none else (h.get? a).map λo=>(a,o)
def rest(g h:Heap)(L d:Addr):Ψ:=(Mx g h L).filter λp=>decide (p.1≠d)
structure Mod(K:Φ)(mg:W1)(base:Heap):Prop where
 dX:K.In base
 glob:base.Ns mainGlobals mg
 blt:∃mb,base.Ns builtinsNs mb/\∀x:Str,x≠"__name__" ->mb x=bootBuiltins x
 nolimit:base.NoLimit
structure Cx where
 prog:Program
 w:World
 K:Φ
 mg:W1
 base:Heap
 A:Around
 N:X9
 s₀:Shared
 H₀:Hp
 env:Env
 outer:List Env
 stack:List Env
 ex:Y1
 fn:Str->Bool
 calm:Bool
 pn:Ψ
 xe:Ξ
def frs(l:List Env):Y1:=l.filterMap (·.frame)
abbrev Cx.fs(X:Cx):Y1:=frs X.outer
def xY(sc:Scope)(x:Str):Prop:=sc.names.lookup x=some .local\/sc.names.lookup x=some .cell\/sc.names.lookup x=some .free
def Loc(sc:Scope)(x:Str):Prop:=sc.names.lookup x=some .local\/sc.names.lookup x=some .cell
def Look(env:Env)(h:Heap)(m:W1)(x:Str)(u:Value):Prop:=
 (env.kindOf x=some .local/\m x=some u)\/((env.kindOf x=some .cell\/env.kindOf x=some .free)/\∃c,env.cells.lookup x=some c/\h.IsCell c (some u))
structure Cx.Ok(X:Cx):Prop where
 mod:Mod X.K X.mg X.base
 kind:X.env.scope.kind=.function
 glob:X.env.globals=mainGlobals
 blt:X.env.builtins=builtinsNs
 above:X.s₀.heap.objs.size<=X.env.locals
 inj:∀x y c,X.env.cells.lookup x=some c->X.env.cells.lookup y=some c->x=y
 has:∀x,(X.env.kindOf x=some .cell\/X.env.kindOf x=some .free)->∃c,X.env.cells.lookup x=some c
 zB:∀x c,X.fn x=true->X.env.cells.lookup x=some c->X.s₀.heap.objs.size<=c
 hd:X.calm=true->X.A.handled=none
 frames:X.A.frames=some X.stack
 stk:X.stack=X.outer\/(X.stack=X.env :: X.outer/\X.env.frame=some X.env.locals)
 EO:∀b∈X.ex,b≠X.env.locals/\∀x c,X.env.cells.lookup x=some c->c≠b
 bs:∀b o,X.base.get? b=some o->X.s₀.heap.get? b=some o/\X.H₀ b=none
 qD:X.base.objs.size<=X.s₀.heap.objs.size
 ux:∀b o,X.base.get? b=some o->b∉X.ex
 uy:∀b∈X.ex,b∉X.fs
 jE:X.s₀.heap.FunFrames X.base X.outer
 qQ:∀b∈X.fs,X.H₀ b=none
structure Inv(X:Cx)(pins:Ψ)(σ:List (Option V))(H:Hp)(s:Shared):Prop where
 ok:X.Ok
 os:s.os=X.s₀.os
 bare:AllBare s.gens
 base:Un X.fs X.ex X.H₀ H X.s₀.heap s.heap
 loc:∃m,s.heap.Ns X.env.locals m/\∀(i:Nat) (x:Str) (v:V),X.N[i]?=some x->σ[i]?=some (some v)->xY X.env.scope x->∃u,RelV v u/\Look X.env s.heap m x u
 cell:∀x c,X.env.cells.lookup x=some c->∃v,s.heap.IsCell c v
 free:H X.env.locals=none
 jO:∀x c,X.env.cells.lookup x=some c->H c=none
 pin:∀p∈X.pn++pins,s.heap.get? p.1=some p.2/\H p.1=none/\p.1≠X.env.locals/\p.1∉X.fs/\∀v,p.2.data≠.cell v
 hok:gA X.prog X.w H s.heap
 len:σ.length=X.N.length
section
variable{X:Cx}{pins:Ψ}{σ:List (Option V)}{H H':Hp}{s:Shared}{h':Heap}
def Cx.Ok.YB(ok:X.Ok)(e:X.base.get? b=some o):b∉X.fs:=λa=>by
 have:=(ok.jE.mem a).1;rw[e]at this;exists this
theorem Inv.bs(I:Inv X pins σ H s):∀b o,X.base.get? b=some o->s.heap.get? b=some o/\H b=none:=λb o e=>
 ⟨I.base.keep b o (I.ok.bs b o e).1 (I.ok.bs b o e).2 (I.ok.YB e) (I.ok.ux b o e),I.base.free b o (I.ok.bs b o e).1 (I.ok.bs b o e).2 (I.ok.ux b o e)⟩
def Inv.bk(I:Inv X pins σ H s):∀b o,X.base.get? b=some o->s.heap.get? b=some o:=λb o e=>(I.bs b o e).1
theorem Inv.mod(I:Inv X pins σ H s):Mod X.K X.mg X.base:=I.ok.mod
def Inv.iu(I:Inv X pins σ H s):X.K.In s.heap:=I.ok.mod.dX.keeps I.bk
theorem Inv.lt(I:Inv X pins σ H s):X.env.locals<s.heap.objs.size:=let ⟨_,hn,_⟩:=I.loc;hn.lt
def Inv.sz(I:Inv X pins σ H s):X.s₀.heap.objs.size<=s.heap.objs.size:=aaN I.ok.above (adI I.lt)
def Inv.YC(I:Inv X pins σ H s){a:Addr}(h:s.heap.objs.size<=a):a∉X.fs:=λb=>by
 obtain⟨_,o,c,_⟩:=I.ok.jE.mem b;exact absurd (WU (aaF c) (aaN I.sz h)) (aa6 _)
def Inv.qR(I:Inv X pins σ H s):∀x c,X.env.cells.lookup x=some c->c≠X.env.locals:=λx c e z=>by
 obtain⟨v,o,d,f⟩:=I.cell x c e;obtain⟨m,⟨g,h,j,a,b,_⟩,_⟩:=I.loc;rw[z,a]at d;exists d;rw[b]at f;exists f
theorem Inv.jE(I:Inv X pins σ H s):s.heap.FunFrames X.base X.outer:=by
 have all:∀(l:List Env),(∀b∈frs l,b∈X.fs)->X.s₀.heap.FunFrames X.base l->s.heap.FunFrames X.base l:=by
  intro l;induction l with
  |nil=>intro _ _;trivial
  |cons g r h=>
   intro f j;obtain⟨k,⟨L,o,a,p,q,x⟩,y⟩:=j;have c:=f L (by unfold frs;rw[aaS,a];exact aa4);obtain⟨A,e⟩:=I.base.slot L o q (I.ok.qQ L c) c λz=>I.ok.uy L z c;exact⟨k,⟨L,_,a,p,e,x⟩,h (λb d=>f b (by unfold frs;rw[aaS,a];exact aaM _ d)) y⟩
 exact all X.outer (λ_ d=>d) I.ok.jE
theorem Inv.stack(I:Inv X pins σ H s):s.heap.FunFrames X.base X.stack:=by
 rcases I.ok.stk with e|⟨e,a⟩
 .rw[e];exact I.jE
 .rw[e];obtain⟨m,b,_⟩:=I.loc;refine .cons (by rw[I.ok.kind];decide) a b ?_ I.jE;exact Heap.get?_none_of_le (aaN I.ok.qD I.ok.above)
def Inv.u7(I:Inv X pins σ H s):∀b∈frs X.stack,b∈X.env.locals :: X.fs:=λb a=>by
 rcases I.ok.stk with e|⟨e,c⟩
 .rw[e]at a;exact aaM _ a
 .rw[e]at a;unfold frs at a;rw[aaS,c]at a;exact a
def Inv.wG(I:Inv X pins σ H s):∀b∈frs X.stack,H b=none:=λb a=>by
 rcases qE (I.u7 b a)with e|a
 .rw[e];exact I.free
 .obtain⟨_,o,c,_⟩:=I.ok.jE.mem a;exact I.base.free b o c (I.ok.qQ b a) λz=>I.ok.uy b z a
def Inv.step{ch:Y1}(I:Inv X pins σ H s)(Z:∀b∈ch,(b∈X.ex\/X.s₀.heap.objs.size<=b)/\b≠X.env.locals/\(∀x c,X.env.cells.lookup x=some c->c≠b)/\∀p∈X.pn++pins,p.1≠b)(keep:∀b o,b≠X.env.locals->b∉X.fs->b∉ch->s.heap.get? b=some o->H b=none->h'.get? b=some o)(slot:∀b o,b≠X.env.locals->b∈X.fs->b∉ch->s.heap.get? b=some o->H b=none->∃sl,h'.get? b=some { o with slots:=sl })(free:∀b o,b∉ch->s.heap.get? b=some o->H b=none->H' b=none)(there:∀b o,b∉ch->s.heap.get? b=some o->∃o',h'.get? b=some o')(tups:∀b xs,H b=some (.tup xs)->H' b=some (.tup xs))(mY:∀b o u,H b=some (.bY o u)->H' b=some (.bY o u))(oM:∀b ps,H b=some (.xX ps)->∃more,H' b=some (.xX (ps++more)))(ns:∀m,s.heap.Ns X.env.locals m->h'.Ns X.env.locals m)(hok:gA X.prog X.w H' h')(hg:AllBare g'):
  Inv X pins σ H' { s with heap:=h',gens:=g',drawn:=d',toks:=t' }:=by
 have V7:∀b o,X.s₀.heap.get? b=some o->b≠X.env.locals:=λb o e=>aaV (WU (aaF e) I.ok.above);have KA:∀b o,X.s₀.heap.get? b=some o->b∉X.ex->b∉ch:=λb o e a h=>by
  rcases(Z b h).1 with z|z
  .exact a z
  .exact absurd (WU (aaF e) z) (aa6 _)
 have f:∀x c,X.env.cells.lookup x=some c->∀v,s.heap.IsCell c v->h'.IsCell c v:=λx c e v ⟨o,j,A⟩=>by
  have ER:=λz=>(Z c z).2.2.1 x c e rfl;by_cases B:c∈X.fs
  .obtain⟨sl,q⟩:=slot c o (I.qR x c e) B ER j (I.jO x c e);exact⟨_,q,A⟩
  .exact⟨o,keep c o (I.qR x c e) B ER j (I.jO x c e),A⟩
 refine⟨I.ok,I.os,hg,⟨λb o e n h a=>?_,λb o e n h a=>?_,λb o e n a=>?_,λb o e a=>?_,λb xs e=>tups b xs (I.base.tups b xs e),λb o xs e=>mY b o xs (I.base.mY b o xs e),λb ps e=>?_⟩,?_,λx c e=>?_,?_,λx c e=>?_,λp C=>?_,hok,I.len⟩
 .exact keep b o (V7 b o e) h (KA b o e a) (I.base.keep b o e n h a) (I.base.free b o e n a)
 .obtain⟨sl,g⟩:=I.base.slot b o e n h a;obtain⟨Pe,y⟩:=slot b _ (V7 b o e) h (KA b o e a) g (I.base.free b o e n a);exact⟨Pe,y⟩
 .obtain⟨o',g⟩:=I.base.there b o e a;exact free b o' (KA b o e a) g (I.base.free b o e n a)
 .obtain⟨o',g⟩:=I.base.there b o e a;exact there b o' (KA b o e a) g
 .obtain⟨J,g⟩:=I.base.oM b ps e;obtain⟨K,y⟩:=oM b _ g;exact⟨J++K,by rw[y,Array.append_assoc]⟩
 .obtain⟨m,L,M⟩:=I.loc;refine⟨m,ns m L,λi x v g y N=>?_⟩;obtain⟨u,r,l⟩:=M i x v g y N;refine⟨u,r,?_⟩;rcases l with l|⟨k,c,e,z⟩
  .exact .inl l
  .exact .inr ⟨k,c,e,f x c e _ z⟩
 .obtain⟨v,z⟩:=I.cell x c e;exact⟨v,f x c e v z⟩
 .obtain⟨m,⟨o,_,_,j,_⟩,_⟩:=I.loc;exact free _ o (λz=>(Z _ z).2.1 rfl) j I.free
 .obtain⟨v,o,j,A⟩:=I.cell x c e;exact free c o (λz=>(Z c z).2.2.1 x c e rfl) j (I.jO x c e)
 .obtain⟨e,n,F,G,d⟩:=I.pin p C;have ER:=λz=>(Z p.1 z).2.2.2 p C rfl;exact⟨keep p.1 p.2 F G ER e n,free p.1 p.2 ER e n,F,G,d⟩
def Inv.un(I:Inv X pins σ H s)(u:Un X.fs [] H H' s.heap h')(hok:gA X.prog X.w H' h'):Inv X pins σ H' { s with heap:=h',toks:=t' }:=by
 obtain⟨m,⟨o,k,p,f,r⟩,_⟩:=id I.loc;obtain⟨q,g⟩:=u.any f I.free (by simp);exact I.step (ch:=[]) (λ_ z=>nomatch z) (λb o _ c _ e n=>u.keep b o e n c (by simp)) (λb o _ c _ e n=>u.slot b o e n c (by simp)) (λb o _ e n=>u.free b o e n (by simp)) (λb o _ e=>u.there b o e (by simp)) u.tups u.mY u.oM (λx h=>by
  obtain⟨y,d,Pf,a,j⟩:=h;rw[f]at a;exists a;exact⟨_,d,Pf,g,j⟩) hok I.bare
def Inv.call(I:Inv X pins σ H s)(u:Un (frs X.stack) ch H H' s.heap h')(hok:gA X.prog X.w H' h')(hg:AllBare g')(Z:∀b∈ch,(b∈X.ex\/X.s₀.heap.objs.size<=b)/\b≠X.env.locals/\(∀x c,X.env.cells.lookup x=some c->c≠b)/\∀p∈X.pn++pins,p.1≠b):
  Inv X pins σ H' { s with heap:=h',gens:=g',drawn:=d',toks:=t' }:=by
 obtain⟨m,⟨o,y,A,h,r⟩,_⟩:=id I.loc;obtain⟨B,f⟩:=u.any h I.free λz=>(Z _ z).2.1 rfl;exact I.step Z (λb o f j a e n=>u.keep b o e n (λz=>(qE (I.u7 b z)).elim f j) a) (λb o _ _ a e n=>u.any e n a) (λb o a e n=>u.free b o e n a) (λb o a e=>u.there b o e a) u.tups u.mY u.oM (λC k=>by
  obtain⟨F,g,Pf,d,q⟩:=k;rw[h]at d;exists d;exact⟨_,g,Pf,f,q⟩) hok hg
def Inv.turned(I:Inv X pins σ H s)(k:∀b o,b≠it->s.heap.get? b=some o->h'.get? b=some o)(hn:H it=none)(Z:it≠X.env.locals)(h1:it∈X.ex\/X.s₀.heap.objs.size<=it)(h2:∀x c,X.env.cells.lookup x=some c->c≠it)(h3:∀p∈X.pn++pins,p.1≠it):Inv X pins σ H { s with heap:=h',toks:=t' }:=by
 have V8:∀b u,H b=some u->b≠it:=λb u e z=>by rw[z,hn]at e;exists e
 refine I.step (ch:=[it]) (λb d=>?_) (λb o _ _ a e _=>k b o (λz=>a (by simp[z])) e) (λb o _ _ a e _=>⟨o.slots,k b o (λz=>a (by simp[z])) e⟩) (λ_ _ _ _ n=>n)
  (λb o a e=>⟨o,k b o (λz=>a (by simp[z])) e⟩) (λ_ _ e=>e) (λ_ _ _ e=>e) (λb ps e=>⟨#[],by rw[e];simp⟩) (λm f=>?_) (λb u e=>?_) I.bare
 .have e:b=it:=by simpa using d
  subst e;exact⟨h1,Z,h2,h3⟩
 .obtain⟨o,g,h,j,r⟩:=f;exact⟨o,g,h,k _ o (abJ Z) j,r⟩
 .refine(I.hok b u e).stay (λc v a q=>k c v ?_ q) (λ_ q=>q) λ_ _ q=>q;rcases a with z|z
  .rw[z];exact V8 b u e
  .exact V8 c _ z
def Inv.tok(I:Inv X pins σ H s)(t:Nat):Inv X pins σ H { s with toks:=t }:=I.un Un.refl I.hok
theorem Inv.kept(I:Inv X pins σ H s)(k:∀b u,s.heap.get? b=some u->h'.get? b=some u):Inv X pins σ H { s with heap:=h',toks:=t' }:=I.un (Un.kept k) (I.hok.kept k)
theorem Inv.laid{a:Addr}{o:HO}{t':Nat}(I:Inv X pins σ H s)(k:∀b u,s.heap.get? b=some u->h'.get? b=some u)(z:s.heap.objs.size<=a)(new:gF X.prog X.w (upd H a o) h' a o):
  Inv X pins σ (upd H a o) { s with heap:=h',toks:=t' }:=I.un (Un.laid k z (I.hok.fresh z)) (I.hok.laid k z new)
theorem Inv.write(I:Inv X pins σ H s)(z:Ky (H x))(Z:e=x\/H e=some (.own x))(k:∀b u,b≠e->s.heap.get? b=some u->h'.get? b=some u)(BF:∃u,h'.get? e=some u)(new:gF X.prog X.w (upd H x o) h' x o):Inv X pins σ (upd H x o) { s with heap:=h',toks:=t' }:=I.un (Un.write z Z k BF) (I.hok.write z Z k BF new)
def Inv.BG(I:Inv X pins σ H s)(h:∀p∈UL,s.heap.get? p.1=some p.2/\H p.1=none/\p.1≠X.env.locals/\p.1∉X.fs/\∀v,p.2.data≠.cell v):Inv X UL σ H s:=
 ⟨I.ok,I.os,I.bare,I.base,I.loc,I.cell,I.free,I.jO,λp a=>(k8 a).elim (λz=>I.pin p (abl _ z)) (h p),I.hok,I.len⟩
def uz{N:X9}(z:N.Nodup){i j:Nat}(a:N[i]?=some x)(b:N[j]?=some x):i=j:=by
 obtain⟨e,c⟩:=gL a;obtain⟨f,d⟩:=gL b;exact(List.getElem_inj z).mp (c.trans d.symm)
def qS(I:Inv X pins σ H s)(hN:X.N.Nodup)(hi:X.N[i]?=some x)(hx:Loc X.env.scope x)(r:RelV v u)(h:∀s',Inv X pins (σ.set i (some v)) H s'->(∃a,Heap.SameBut a s.heap s'.heap/\(a=X.env.locals\/X.env.cells.lookup x=some a))->Q () s')(hf:X.fn x=true\/X.env.scope.names.lookup x=some .local:=by first|exact .inl rfl|exact .inr rfl|assumption):wpAny M A (storeName X.env x u) Q E s:=by
 obtain⟨m,hn,hl⟩:=id I.loc;have W:(X.env.scope.kind==.class || (X.env.scope.kind==.module&&X.env.locals != X.env.globals))=false:=by rw[I.ok.kind];rfl
 have Di:i<σ.length:=by rw[I.len];exact(gL hi).1
 have qR:=I.qR;have g:∀{a:Addr} {h':Heap},(∃o,s.heap.get? a=some o/\H a=none)->Heap.SameBut a s.heap h'->gA X.prog X.w H h':=λ{a h'} ha f b ob e=>by
  obtain⟨_,_,F⟩:=ha;refine(I.hok b ob e).stay (λc w' C q=>(f.2 c ?_).trans q) (λ_ q=>q) λ_ _ q=>q;rintro rfl;rcases C with rfl|C
  .rw[F]at e;exists e
  .rw[F]at C;exists C
 rcases hx with J|J
 .refine wpAny_storeName_local J hn (λh' hn' f=>?_) W;obtain⟨oL,_,_,V9,_⟩:=id hn;refine h _ ⟨I.ok,I.os,I.bare,⟨λb o e n K hx=>?_,λb o e n K hx=>?_,I.base.free,λb o e hx=>?_,I.base.tups,I.base.mY,I.base.oM⟩,⟨_,hn',λj y v' B G e3=>?_⟩,λy c e=>?_,I.free,I.jO,λp hp=>?_,g ⟨oL,V9,I.free⟩ f,by simpa using I.len⟩ ⟨_,f,.inl rfl⟩
  .exact(f.2 b (aaV (WU (aaF e) I.ok.above))).trans (I.base.keep b o e n K hx)
  .obtain⟨sl,B⟩:=I.base.slot b o e n K hx;exact⟨sl,(f.2 b (aaV (WU (aaF e) I.ok.above))).trans B⟩
  .obtain⟨o',B⟩:=I.base.there b o e hx;exact⟨o',(f.2 b (aaV (WU (aaF e) I.ok.above))).trans B⟩
  .by_cases L:j=i
   .subst L;rw[hi]at B;exists B;rw[WV Di]at G;cases G;exact⟨u,r,.inl ⟨J,by simp⟩⟩
   .rw[T7 (abJ L)]at G;obtain⟨u',r',q⟩:=hl j y v' B G e3;refine⟨u',r',?_⟩;rcases q with ⟨k,e⟩|⟨k,c,e,z⟩
    .refine .inl ⟨k,?_⟩;have:y≠x:=λe=>L (uz hN B (e▸hi));simp[this,e]
    .exact .inr ⟨k,c,e,z.sameBut f (qR y c e)⟩
  .obtain⟨w',z⟩:=I.cell y c e;exact⟨w',z.sameBut f (qR y c e)⟩
  .obtain⟨e,n,ne,nf,d⟩:=I.pin p hp;exact⟨(f.2 p.1 ne).trans e,n,ne,nf,d⟩
 .have P:X.fn x=true:=by
   rcases hf with z|z
   .exact z
   .rw[z]at J;cases J
  obtain⟨c,C⟩:=I.ok.has x (.inl J);obtain⟨w',z⟩:=I.cell x c C;refine wpAny_storeName_cell I.ok.kind J C z (λh' Y f=>?_);obtain⟨oc,Z,YD⟩:=id z;refine h { s with heap:=h' } ⟨I.ok,I.os,I.bare,⟨λb o e n K hx=>?_,λb o e n K hx=>?_,I.base.free,λb o e hx=>?_,I.base.tups,I.base.mY,I.base.oM⟩,⟨m,hn.sameBut f (abJ (qR x c C)),λj y v' B G e3=>?_⟩,λy c' e=>?_,I.free,I.jO,λp hp=>?_,g ⟨oc,Z,I.jO x c C⟩ f,by simpa using I.len⟩ ⟨c,f,.inr C⟩
  .exact(f.2 b (aaV (WU (aaF e) (I.ok.zB x c P C)))).trans (I.base.keep b o e n K hx)
  .obtain⟨sl,B⟩:=I.base.slot b o e n K hx;exact⟨sl,(f.2 b (aaV (WU (aaF e) (I.ok.zB x c P C)))).trans B⟩
  .obtain⟨o',B⟩:=I.base.there b o e hx;exact⟨o',(f.2 b (aaV (WU (aaF e) (I.ok.zB x c P C)))).trans B⟩
  .by_cases L:j=i
   .subst L;rw[hi]at B;exists B;rw[WV Di]at G;cases G;exact⟨u,r,.inr ⟨.inl J,c,C,Y⟩⟩
   .rw[T7 (abJ L)]at G;obtain⟨u',r',q⟩:=hl j y v' B G e3;refine⟨u',r',?_⟩;rcases q with q|⟨k,c',e,z'⟩
    .exact .inl q
    .refine .inr ⟨k,c',e,z'.sameBut f ?_⟩;rintro rfl;exact L (uz hN B (I.ok.inj _ _ _ e C▸hi))
  .by_cases hcc:c'=c
   .subst hcc;exact⟨_,Y⟩
   .obtain⟨w2,z2⟩:=I.cell y c' e;exact⟨w2,z2.sameBut f hcc⟩
  .obtain⟨e,n,ne,nf,d⟩:=I.pin p hp;refine⟨(f.2 p.1 ?_).trans e,n,ne,nf,d⟩;intro q;rw[q,Z]at e;have q':oc=p.2:=abi e;exact d w' (by rw[<-q'];exact YD)
def uA(I:Inv X pins σ H s)(z:X.N.Nodup)(hi:X.N[i]?=some x)(Z:Loc X.env.scope x)(r:RelV v u)(h:∀s',Inv X pins (σ.set i (some v)) H s'->Q () s')(hf:X.fn x=true\/X.env.scope.names.lookup x=some .local:=by first|exact .inl rfl|exact .inr rfl|assumption):wpAny M A (storeName X.env x u) Q E s:=
 qS I z hi Z r (λs' I' _=>h s' I') hf
def Inv.zb(I:Inv X pins σ H s)(ho:s'.os=s.os)(u:Un (frs X.stack) ch H H' s.heap s'.heap)(hok:gA X.prog X.w H' s'.heap)(Z:AllBare s'.gens)(z:∀b∈ch,(b∈X.ex\/X.s₀.heap.objs.size<=b)/\b≠X.env.locals/\(∀x c,X.env.cells.lookup x=some c->c≠b)/\∀p∈X.pn++pins,p.1≠b):Inv X pins σ H' s':=by
 obtain⟨h',a,d,f,g⟩:=s';have e:=ho;subst e;exact I.call u hok Z z
end
abbrev XK:=Value->Option Addr->Hp->Prop
abbrev St:=List (Option V)
abbrev VK:=V->Hp->Prop
abbrev TE:=St->Hp->VK->Prop
abbrev TT:=St->Hp->(Bool->Hp->Prop)->Prop
abbrev TA:=St->Hp->(List V->Hp->Prop)->Prop
structure Ends where
 nx:St->Hp->Prop
 rt:VK
 bk:St->Hp->Prop:=λ_ _=>False
 ct:St->Hp->Prop:=λ_ _=>False
abbrev TS:=Ends->St->Hp->Prop
def EP(X:Cx)(pins:Ψ)(σ:St)(Q:VK)(u:Value)(s':Shared):Prop:=∃v H',Inv X pins σ H' s'/\RelV v u/\Q v H'
def TP(X:Cx)(pins:Ψ)(σ:St)(Q:Bool->Hp->Prop)(b:Bool)(s':Shared):Prop:=∃H',Inv X pins σ H' s'/\Q b H'
def AP(X:Cx)(pins:Ψ)(σ:St)(Q:List V->Hp->Prop)(us:Y2)(s':Shared):Prop:=∃vs H',Inv X pins σ H' s'/\Vals vs us/\Q vs H'
def SP(X:Cx)(pins:Ψ)(D:Ends)(f:Flow)(s':Shared):Prop:=
 match f with
 |.next=>∃σ' H',Inv X pins σ' H' s'/\D.nx σ' H'
 |.brk=>∃σ' H',Inv X pins σ' H' s'/\D.bk σ' H'
 |.cont=>∃σ' H',Inv X pins σ' H' s'/\D.ct σ' H'
 |.ret u=>∃v σ' H',Inv X pins σ' H' s'/\RelV v u/\D.rt v H'
def PE(X:Cx)(e:Expr)(t:TE):Prop:=
 ∀(pins:Ψ) (s:Shared) (σ:St) (H:Hp) (Q:VK),Inv X pins σ H s->t σ H Q->wpAny (model X.prog X.w) X.A (eval e X.env) (EP X pins σ Q) X.xe s
def PT(X:Cx)(e:Expr)(t:TT):Prop:=
 ∀(pins:Ψ) (s:Shared) (σ:St) (H:Hp) (Q:Bool->Hp->Prop),Inv X pins σ H s->t σ H Q->wpAny (model X.prog X.w) X.A (isTrue e X.env (eval e X.env)) (TP X pins σ Q) X.xe s
def PW(X:Cx)(e:Expr)(t:TT):Prop:=
 ∀(whole:Sem Value) (pins:Ψ) (s:Shared) (σ:St) (H:Hp) (Q:Bool->Hp->Prop),Inv X pins σ H s->t σ H Q->wpAny (model X.prog X.w) X.A (isTrue e X.env whole) (TP X pins σ Q) X.xe s
def PW.pt(h:PW X e t):PT X e t:=h _
def PA(X:Cx)(es:Kx)(t:TA):Prop:=
 ∀(pos:Pos) (pins:Ψ) (s:Shared) (σ:St) (H:Hp) (Q:List V->Hp->Prop),Inv X pins σ H s->t σ H Q->wpAny (model X.prog X.w) X.A (spliced (backTo pos (starEach es X.env))) (AP X pins σ Q) X.xe s
def PS(X:Cx)(st:Stmt)(t:TS):Prop:=
 ∀(pins:Ψ) (s:Shared) (σ:St) (H:Hp) (D:Ends),Inv X pins σ H s->t D σ H->wpAny (model X.prog X.w) X.A (exec st X.env) (SP X pins D) X.xe s
def fT(X:Cx)(st:List Stmt)(t:TS):Prop:=
 ∀(pins:Ψ) (s:Shared) (σ:St) (H:Hp) (D:Ends),Inv X pins σ H s->t D σ H->wpAny (model X.prog X.w) X.A (execs st X.env) (SP X pins D) X.xe s
def bx{α:Type}{t:Sem α}{Q z:α->Shared->Prop}(h:wpAny M A t Q E s)(I:∀a s,Q a s->z a s):wpAny M A t z E s:=aaZ h I λ_ _ x=>x
section
variable{X:Cx}
def bin{a b:Expr}{z tb:TE}(Z:PE X a z)(hb:PE X b tb){pins:Ψ}{s:Shared}{σ:St}{H:Hp}{R:V->V->Hp->Prop}(I:Inv X pins σ H s)(h:z σ H λx H1=>tb σ H1 λy H2=>R x y H2){α:Type}{Q:α->Shared->Prop}{f:Value->Value->Sem α}(hf:∀v u s2 x y H2,Inv X pins σ H2 s2->RelV x v->RelV y u->R x y H2->wpAny (model X.prog X.w) X.A (f v u) Q X.xe s2):
  wpAny (model X.prog X.w) X.A (eval a X.env) (λv s₁=>wpAny (model X.prog X.w) X.A (eval b X.env) (λu s₂=>wpAny (model X.prog X.w) X.A (f v u) Q X.xe s₂) X.xe s₁) X.xe s:=by
 refine bx (Z pins s σ H _ I h) λv s1 zr=>?_;obtain⟨x,H1,I1,c,d⟩:=zr;refine bx (hb pins s1 σ H1 _ I1 d) λu s2 zr=>?_;obtain⟨y,H2,I2,e,g⟩:=zr;exact hf v u s2 x y H2 I2 c e g
def Dj(i:Nat):TE:=λσ H Q=>∃v,σ[i]?=some (some v)/\Q v H
def tC(v:V):TE:=λ_ H Q=>Q v H
def oZ{i:Nat}{x:Str}{pos:Pos}(Z:X.N[i]?=some x)(hv:xY X.env.scope x)(hd:(x==("__debug__":Str))=false:=by decide)(z:(x==("__classdict__":Str))=false:=by decide):PE X (.Name x pos) (Dj i):=by
 intro d s σ H Q I h;obtain⟨v,e,h⟩:=h;obtain⟨m,g,j⟩:=I.loc;obtain⟨u,r,l⟩:=j i x v Z e hv;have fin:EP X d σ Q u s:=⟨v,H,I,r,h⟩
 rcases l with ⟨b,k⟩|⟨b,c,f,a⟩
 .exact ady (wpAny_loadName_local I.ok.kind b g k fin) hd
 .rcases b with b|b
  .exact ady (wpAny_loadName_cell I.ok.kind b f a fin) hd
  .exact ady (wpAny_loadName_free I.ok.kind b f a fin z) hd
def zC:PE X (.Constant (.int i) j pos) (tC (.int i)):=λ_ _ _ H _ I h=>wpAny_Constant_int ⟨.int i,H,I.tok _,⟨_,rfl⟩,h⟩
def UM:PE X (.Constant (.bool b) j pos) (tC (.bl b)):=λ_ _ _ H _ I h=>Constant_bool ⟨.bl b,H,I,rfl,h⟩
def Pg:PE X (.Constant .none j pos) (tC .aN):=λ_ _ _ H _ I h=>Constant_none ⟨.aN,H,I,rfl,h⟩
def ES:PE X (.Constant (.str x) j pos) (tC (.str x)):=λ_ _ _ H _ I h=>Calls.Constant_str ⟨.str x,H,I.tok _,⟨_,rfl⟩,h⟩
def Gl(X:Cx)(x:Str):Prop:=X.env.kindOf x=some .globalImplicit
def sO{E:Ξ}{pins:Ψ}{s:Shared}{σ:St}{H:Hp}{x:Str}{u:Value}{z:Pos}{Q:Ξ}(I:Inv X pins σ H s)(Z:Gl X x)(hm:X.mg x=some u)(h:Q u s)(hd:(x==("__debug__":Str))=false:=by decide):wpAny (model X.prog X.w) X.A (eval (.Name x z) X.env) Q E s:=
 abF I.ok.kind Z (acr (by rw[I.ok.glob];exact I.mod.glob.keeps I.bk) hm h) hd
def o4{E:Ξ}{pins:Ψ}{s:Shared}{σ:St}{H:Hp}{x:Str}{u:Value}{z:Pos}{Q:Ξ}(I:Inv X pins σ H s)(Z:Gl X x)(hm:X.mg x=none)(hv:bootBuiltins x=some u)(h:Q u s)(hn:x≠"__name__" :=by decide)(hd:(x==("__debug__":Str))=false:=by decide):wpAny (model X.prog X.w) X.A (eval (.Name x z) X.env) Q E s:=by
 obtain⟨c,a,b⟩:=I.mod.blt;exact abF I.ok.kind Z (Calls.loadGlobal_builtin (by rw[I.ok.glob];exact I.mod.glob.keeps I.bk) hm (by rw[I.ok.blt];exact a.keeps I.bk) ((b x hn).trans hv) h) hd
def wH(z:Gl X x)(Z:X.mg x=some u)(r:RelV v u)(hd:(x==("__debug__":Str))=false:=by decide):PE X (.Name x pos) (tC v):=
 λ_ _ _ H _ I h=>sO I z Z ⟨v,H,I,r,h⟩ hd
def My{x:Str}{v:V}{u:Value}{pos:Pos}(z:Gl X x)(Z:X.mg x=none)(hv:bootBuiltins x=some u)(r:RelV v u)(hn:x≠"__name__" :=by decide)(hd:(x==("__debug__":Str))=false:=by decide):PE X (.Name x pos) (tC v):=
 λ_ _ _ H _ I h=>o4 I z Z hv ⟨v,H,I,r,h⟩ hn hd
variable{a b:Expr}{ta tb:TE}{pos:Pos}
def tB(t:TE):TT:=λσ H Q=>t σ H λx H1=>∃c,x=.bl c/\Q c H1
def Ph{e:Expr}{t:TE}(h:PE X e t)(z:∀whole,isTrue e X.env whole=(do let v <-whole;standAt e.pos;holding [v] (truthy v)):=by intro _;rfl):PT X e (tB t):=by
 intro c s σ H Q I hw;refine isTrue_plain (bx (h c s σ H _ I hw) λv s1 zr=>?_) (z _);obtain⟨x,H1,I1,f,g⟩:=zr;obtain⟨d,rfl,q⟩:=g;cases f;exact abS ⟨H1,I1,q⟩
variable{tA KD:TT}{rest:Kx}
def YE(t u:TT):TT:=λσ H Q=>t σ H λc H1=>if c=true then u σ H1 Q else Q false H1
def tOr(t u:TT):TT:=λσ H Q=>t σ H λc H1=>if c=true then Q true H1 else u σ H1 Q
def YF(t:TT):TT:=λσ H Q=>t σ H λc H1=>Q (!c) H1
def Mz(z:PT X a tA):PW X (.BoolOp .And [a] pos) tA:=by
 intro f d s σ H Q I h;refine isTrue_and (bx (z d s σ H Q I h) λc s1 e=>?_);cases c with
 |true=>exact isTrue_and_nil e
 |false=>exact e
def ET(z:PT X a tA):PW X (.BoolOp .Or [a] pos) tA:=by
 intro f d s σ H Q I h;refine isTrue_or (bx (z d s σ H Q I h) λc s1 e=>?_);cases c with
 |false=>exact isTrue_or_nil e
 |true=>exact e
def Pj(z:PT X a tA)(Z:PW X (.BoolOp .And (b :: rest) pos) KD):PW X (.BoolOp .And (a :: b :: rest) pos) (YE tA KD):=by
 intro f d s σ H Q I h;refine isTrue_and (bx (z d s σ H _ I h) λc s1 zr=>?_);obtain⟨H1,I1,e⟩:=zr;cases c with
 |true=>exact Z f d s1 σ H1 Q I1 e
 |false=>exact⟨H1,I1,e⟩
def KG(z:PT X a tA)(Z:PW X (.BoolOp .Or (b :: rest) pos) KD):PW X (.BoolOp .Or (a :: b :: rest) pos) (tOr tA KD):=by
 intro f d s σ H Q I h;refine isTrue_or (bx (z d s σ H _ I h) λc s1 zr=>?_);obtain⟨H1,I1,e⟩:=zr;cases c with
 |true=>exact⟨H1,I1,e⟩
 |false=>exact Z f d s1 σ H1 Q I1 e
def EU(z:PT X a tA):PT X (.UnaryOp .Not a pos) (YF tA):=by
 intro d s σ H Q I h;exact isTrue_not (z d s σ H (λc H1=>Q (!c) H1) I h)
def tIf(t:TT)(ta tb:TE):TE:=λσ H Q=>t σ H λc H1=>if c=true then ta σ H1 Q else tb σ H1 Q
def Ih(hc:PT X c tA)(z:PE X a ta)(Z:PE X b tb):PE X (.IfExp c a b pos) (tIf tA ta tb):=by
 intro e s σ H Q I h;refine wpAny_IfExp (bx (hc e s σ H _ I h) λd s1 zr=>?_);obtain⟨H1,I1,f⟩:=zr;cases d with
 |true=>exact z e s1 σ H1 Q I1 f
 |false=>exact Z e s1 σ H1 Q I1 f
end
def gK(K:Φ)(H:Hp)(a:Addr)(xs:T1):Prop:=
 Rd H a (.lst xs)\/
  ∃(o:Obj) (its:Array Value) (n:Nat),K.lookup a=some o/\o.cls=.type "list" /\o.dict=none/\o.data=.seq its n/\its.size<=sizeLine/\Vals xs its.toList
def dI(K:Φ)(H:Hp)(a:Addr)(xs:T1):Prop:=
 Rd H a (.tup xs)\/
  ∃(o:Obj) (its:Array Value) (n:Nat),K.lookup a=some o/\o.cls=.type "tuple" /\o.data=.seq its n/\its.size<=sizeLine/\Vals xs its.toList
def YG:Value->Option V
 |.none=>some .aN
 |.bool b=>some (.bl b)
 |.int i _=>some (.int i)
 |.str x _=>some (.str x)
 |.bytes b _=>some (.qC b)
 |.float b _=>some (.Kw b)
 |.ref a=>some (.ref a)
 |.type n=>some (.ty n)
 |_=>none
def RelV.abs(r:RelV x u):YG u=some x:=by
 cases x with
 |aN=>cases r;rfl
 |bl _=>cases r;rfl
 |int _=>obtain⟨t,rfl⟩:=r;rfl
 |str _=>obtain⟨t,rfl⟩:=r;rfl
 |qC _=>obtain⟨t,rfl⟩:=r;rfl
 |Kw _=>obtain⟨t,rfl⟩:=r;rfl
 |ref _=>cases r;rfl
 |ty _=>cases r;rfl
theorem RelV.inj(r:RelV x u)(q:RelV y u):x=y:=abi (r.abs.symm.trans q.abs)
theorem Vals.inj:∀{xs z:T1}{us:Y2},Vals xs us->Vals z us->xs=z
 |_,_,_,.nil,.nil=>rfl
 |_,_,_,.cons r t,.cons r' t'=>by rw[r.inj r',Vals.inj t t']
section
variable{X:Cx}{pins:Ψ}{σ:St}{H:Hp}{s:Shared}{a:Addr}{xs ys:T1}
def gK.of{K:Φ}(h:H a=some (.lst xs)):gK K H a xs:=.inl (.inl h)
def dI.of{K:Φ}(h:H a=some (.tup xs)):dI K H a xs:=.inl (.inl h)
def Inv.list(I:Inv X pins σ H s)(h:gK X.K H a xs):∃Z:Y2,Vals xs Z/\PlainL s.heap a Z.toArray/\xs.length<=sizeLine:=by
 rcases h with h|⟨o,Z,n,b,c,d,f,hz,r⟩
 .obtain⟨z,Z,n,r,e⟩:=h.ok I.hok;exact⟨Z,r,⟨_,n,e,rfl,rfl,rfl⟩,z⟩
 .refine⟨Z.toList,r,⟨o,n,I.iu a o b,c,d,by simpa using f⟩,?_⟩;have e:=r.length;simp only[ab6]at e;lia
def Inv.tuple(I:Inv X pins σ H s)(h:dI X.K H a xs):∃Z:Y2,Vals xs Z/\IsTup s.heap a Z.toArray/\xs.length<=sizeLine:=by
 rcases h with h|⟨o,Z,n,b,c,d,hz,r⟩
 .obtain⟨z,Z,r,p⟩:=h.ok I.hok;exact⟨Z,r,p,z⟩
 .refine⟨Z.toList,r,⟨o,I.iu a o b,c,n,by simpa using d⟩,?_⟩;have e:=r.length;simp only[ab6]at e;lia
def Inv.Ii(I:Inv X pins σ H s)(h:gK X.K H a xs)(h':gK X.K H a ys):xs=ys:=by
 obtain⟨c,r,⟨o,n,e,_,_,d⟩,_⟩:=I.list h;obtain⟨b,j,⟨p,q,f,_,_,g⟩,_⟩:=I.list h';rw[e]at f;exists f;rw[d]at g;injection g with k _
 have:c=b:=by simpa using aaL Array.toList k
 subst this;exact r.inj j
def Inv.qT(I:Inv X pins σ H s)(h:dI X.K H a xs)(h':dI X.K H a ys):xs=ys:=by
 obtain⟨c,r,⟨o,e,_,n,d⟩,_⟩:=I.tuple h;obtain⟨b,j,⟨p,f,_,q,g⟩,_⟩:=I.tuple h';rw[e]at f;exists f;rw[d]at g;injection g with k _
 have:c=b:=by simpa using aaL Array.toList k
 subst this;exact r.inj j
end
abbrev Cx.kL(X:Cx)(E:Ξ):Cx:={ X with xe:=E }
abbrev Cx.iV(X:Cx):Cx:=X.kL λ_ _=>False
theorem Cx.Ok.kL{X:Cx}(ok:X.Ok)(E:Ξ):(X.kL E).Ok:=
 ⟨ok.mod,ok.kind,ok.glob,ok.blt,ok.above,ok.inj,ok.has,ok.zB,ok.hd,ok.frames,ok.stk,ok.EO,ok.bs,ok.qD,ok.ux,ok.uy,ok.jE,ok.qQ⟩
def Cx.Ok.iW{X:Cx}(ok:(X.kL E).Ok):X.Ok:=
 ⟨ok.mod,ok.kind,ok.glob,ok.blt,ok.above,ok.inj,ok.has,ok.zB,ok.hd,ok.frames,ok.stk,ok.EO,ok.bs,ok.qD,ok.ux,ok.uy,ok.jE,ok.qQ⟩
section
variable{X:Cx}{pins:Ψ}{σ:St}{H:Hp}{s:Shared}{E:Ξ}
theorem Inv.kL(I:Inv X pins σ H s)(E:Ξ):Inv (X.kL E) pins σ H s:=⟨I.ok.kL E,I.os,I.bare,I.base,I.loc,I.cell,I.free,I.jO,I.pin,I.hok,I.len⟩
theorem Inv.iW(I:Inv (X.kL E) pins σ H s):Inv X pins σ H s:=⟨I.ok.iW,I.os,I.bare,I.base,I.loc,I.cell,I.free,I.jO,I.pin,I.hok,I.len⟩
theorem SP.iW(h:SP (X.kL E) pins D f s'):SP X pins D f s':=by
 cases f with
 |next=>obtain⟨a,H',I,q⟩:=h;exact⟨a,H',I.iW,q⟩
 |brk=>obtain⟨a,H',I,q⟩:=h;exact⟨a,H',I.iW,q⟩
 |cont=>obtain⟨a,H',I,q⟩:=h;exact⟨a,H',I.iW,q⟩
 |ret u=>obtain⟨v,a,H',I,r,q⟩:=h;exact⟨v,a,H',I.iW,r,q⟩
theorem PT.iV(h:PT X.iV e t):PT X e t:=λpins s σ H Q I hw=>
 aaZ (h pins s σ H Q (I.kL _) hw) (λ_ _ ⟨H',I',q⟩=>⟨H',I'.iW,q⟩) λ_ _ z=>False.elim z
theorem fT.iV{st:List Stmt}(h:fT X.iV st t):fT X st t:=λpins s σ H D I hw=>
 aaZ (h pins s σ H D (I.kL _) hw) (λ_ _ q=>q.iW) λ_ _ z=>False.elim z
end
section
variable{X:Cx}{st:Stmt}{rest:List Stmt}{t u:TS}{e:Expr}{te:TE}{pos:Pos}
def UN:TS:=λD σ H=>D.nx σ H
def YH(t u:TS):TS:=λD σ H=>t { D with nx:=u D } σ H
def wI:fT X [] UN:=λ_ _ σ H _ I h=>ab8 ⟨σ,H,I,h⟩
def jR(h1:PS X st t)(h2:fT X rest u):fT X (st :: rest) (YH t u):=by
 intro a s σ H D I h;refine abX (bx (h1 a s σ H { D with nx:=u D } I h) λf s1 q=>?_);cases f with
 |next=>
  obtain⟨b,H',I',q⟩:=q;exact h2 a s1 b H' D I' q
 |ret v=>exact q
 |brk=>exact q
 |cont=>exact q
def BH(h1:PS X st t):fT X [st] t:=by
 intro a s σ H D I h;refine abX (bx (h1 a s σ H D I h) λf s1 q=>?_);cases f with
 |next=>exact ab8 q
 |ret v=>exact q
 |brk=>exact q
 |cont=>exact q
def UO:TS:=λD σ H=>D.ct σ H
def Bw:PS X (.Continue pos) UO:=λ_ _ σ H _ I h=>wpAny_Continue ⟨σ,H,I,h⟩
def Inv.quiet{pins:Ψ}{σ:St}{H:Hp}{s:Shared}(I:Inv X pins σ H s):interactive X.env=false:=by simp[interactive,I.ok.kind]
def UP(te:TE):TS:=λD σ H=>te σ H λ_ H1=>D.nx σ H1
def MA(z:PE X e te)(Z:swapsWith e none pos.line X.env=pure false:=by rfl):PS X (.Expr e pos) (UP te):=by
 intro a s σ H D I h;exact wpAny_Expr_any (bx (z a s σ H _ I h) λv s1 ⟨x,H1,I1,c,b⟩=>⟨σ,H1,I1,b⟩) I.quiet Z
def YI(te:TE):TS:=λD σ H=>te σ H D.rt
def zD(z:PE X e te):PS X (.Return (some e) pos) (YI te):=by
 intro a s σ H D I h;exact acW (bx (z a s σ H _ I h) λv s1 ⟨x,H1,I1,b,c⟩=>⟨x,σ,H1,I1,b,c⟩)
def YJ(c:TT)(t u:TS):TS:=λD σ H=>c σ H λb H1=>if b=true then t D σ H1 else u D σ H1
def Dk(hc:PT X c tc)(z:fT X a t)(Z:fT X b u):PS X (.If c a b pos) (YJ tc t u):=by
 intro f s σ H D I h;refine wpAny_If (bx (hc f s σ H _ I h) λd s1 zr=>?_);obtain⟨H1,I1,g⟩:=zr;cases d with
 |true=>exact z f s1 σ H1 D I1 g
 |false=>exact Z f s1 σ H1 D I1 g
def EW:TS:=λ_ _ _=>False
def Ij:PS X st EW:=λ_ _ _ _ _ _ h=>h.elim
def EX:fT X sts EW:=λ_ _ _ _ _ _ h=>h.elim
end
abbrev TG:=V->St->Hp->(St->Hp->Prop)->Prop
abbrev zE:=List V->St->Hp->(St->Hp->Prop)->Prop
def PG(X:Cx)(z:Expr)(t:TG):Prop:=
 ∀(pins:Ψ) (s:Shared) (σ:St) (H:Hp) (v:V) (u:Value) (Q:St->Hp->Prop),Inv X pins σ H s->RelV v u->t v σ H Q->
  wpAny (model X.prog X.w) X.A (assign z X.env u) (λ_ a=>∃σ' H',Inv X pins σ' H' a/\Q σ' H') X.xe s
def t7(X:Cx)(z:Kx)(t:zE):Prop:=
 ∀(pins:Ψ) (s:Shared) (σ:St) (H:Hp) (vs:T1) (us:Y2) (Q:St->Hp->Prop),Inv X pins σ H s->Vals vs us->t vs σ H Q->
  wpAny (model X.prog X.w) X.A (assignInOrder ((assignEach z X.env).map (·.2)) us) (λ_ a=>∃σ' H',Inv X pins σ' H' a/\Q σ' H') X.xe s
section
variable{X:Cx}{pos:Pos}
def KH(i:Nat):TG:=λv σ H Q=>Q (σ.set i (some v)) H
def BJ(z:X.N.Nodup)(hi:X.N[i]?=some x)(Z:Loc X.env.scope x)(hf:X.fn x=true\/X.env.scope.names.lookup x=some .local:=by first|exact .inl rfl|exact .inr rfl|assumption):PG X (.Name x pos) (KH i):=by
 intro a s σ H v u Q I r h;exact wpAny_assign_Name (uA I z hi Z r (λb I'=>⟨_,H,I',h⟩) hf)
def YK:zE:=λvs σ H Q=>vs=[]/\Q σ H
def UQ(t:TG)(u:zE):zE:=λvs σ H Q=>∃v r,vs=v :: r/\t v σ H λσ' H'=>u r σ' H' Q
def MB:t7 X [] YK:=by
 intro a s σ H vs us Q I r h;obtain⟨e,h⟩:=h;subst e;cases r;exact assignInOrder_nil ⟨σ,H,I,h⟩
def Ik{e:Expr}{es:Kx}{t:TG}{u:zE}(h1:PG X e t)(h2:t7 X es u)(z:(assignEach (e :: es) X.env).map (·.2)=assign e X.env :: (assignEach es X.env).map (·.2):=by rfl):t7 X (e :: es) (UQ t u):=by
 intro a s σ H vs us Q I r h;obtain⟨v,d,b,h⟩:=h;subst b;cases r with
 |cons r c=>
  rw[z];refine assignInOrder_cons (bx (h1 a s σ H _ _ _ I r h) λ_ s1 zr=>?_);obtain⟨σ1,H1,I1,q1⟩:=zr;exact h2 a s1 σ1 H1 _ _ Q I1 c q1
def YL(K:Φ)(n:Nat)(t:zE):TG:=λv σ H Q=>∃a xs,v=.ref a/\dI K H a xs/\xs.length=n/\t xs σ H Q
def Pk{es:Kx}{k:Nat}{t:zE}{n:Nat}(hc:X.calm=true)(h:t7 X es t)(hn:(assignEach es X.env).length=n:=by rfl)(z:(assignEach es X.env).findIdx? (·.1)=none:=by rfl):PG X (.Tuple es k pos) (YL X.K n t):=by
 intro c s σ H v u Q I r d;obtain⟨a,xs,f,g,j,d⟩:=d;subst f;cases r;obtain⟨p,rv,q,hz⟩:=I.tuple g;refine assign_Tuple_tuple (I.ok.hd hc) q (by simp[hn,<-j,rv.length]) z λx y=>?_;have I1:Inv X c σ H { s with heap:=x }:=I.kept (t':=s.toks) λb o e=>y b o (aaV (aaF e)) e;exact h c _ σ H xs _ Q I1 (by simpa using rv) d
def Pn(z:TE)(g:TG):TS:=λD σ H=>z σ H λx H1=>g x σ H1 D.nx
def Po{tg e:Expr}{z:TE}{g:TG}(Z:PE X e z)(hg:PG X tg g)(hs:swapsWithSole [tg] e pos.line X.env=pure false:=by rfl)(hw:swappedStores [tg] e X.env=pure none:=by rfl)(h1:(assignEach [tg] X.env).map (·.2)=[assign tg X.env]:=by rfl):PS X (.Assign [tg] e pos) (Pn z g):=by
 intro a s σ H D I h;refine wpAny_Assign_stores (bx (Z a s σ H _ I h) λv s1 zr=>?_) hs hw;obtain⟨x,H1,I1,b,c⟩:=zr;rw[h1];exact bx (hg a s1 σ H1 x v _ I1 b c) λ_ s2 q=>q
def qU(z:X.N.Nodup)(hi:X.N[i]?=some x)(Z:Loc X.env.scope x)(he:PE X e te)(hs:swapsWith e (some (.Name x pos')) pos.line X.env=pure false:=by rfl)(hf:X.fn x=true\/X.env.scope.names.lookup x=some .local:=by first|exact .inl rfl|exact .inr rfl|assumption):
  PS X (.Assign [.Name x pos'] e pos) (Pn te (KH i)):=by
 intro a s σ H D I h;refine wpAny_Assign_Name (bx (he a s σ H _ I h) λv s1 zr=>?_) hs;obtain⟨y,H1,I1,b,c⟩:=zr;exact uA I1 z hi Z b (λs2 I2=>⟨_,H1,I2,c⟩) hf
end
section
variable{X:Cx}{pos:Pos}
def Pp(c:TT)(tb:TS):TS:=λD σ H=>∃W:Nat->St->Hp->Prop,(∃m,W m σ H)/\∀m σ H,W m σ H->
 c σ H λb H1=>if b=true then ∃N:St->Hp->Prop,(∀σ' H',N σ' H'->∃m',m'<m/\W m' σ' H')/\tb { D with nx:=N,ct:=N,bk:=D.nx } σ H1 else D.nx σ H1
def Il(z:PassesOwn (model X.prog X.w) X.A X.env X.xe)(hc:PT X c tc)(Z:fT X body tb):PS X (.While c body [] pos) (Pp tc tb):=by
 intro a s σ H D I h;obtain⟨W,⟨m0,r⟩,turn⟩:=h;refine wpAny_While (codeAny_whileLoop (λn x=>∃σ' H',Inv X a σ' H' x/\W n σ' H') ?_ m0 ⟨σ,H,I,r⟩);rintro n s1 ⟨σ1,H1,I1,w1⟩;refine abD z (bx (hc a s1 σ1 H1 _ I1 (turn n σ1 H1 w1)) λb s2 zr=>?_);obtain⟨H2,I2,e⟩:=zr;cases b with
 |true=>
  obtain⟨N,q,e⟩:=e;refine abD z (bx (Z a s2 σ1 H2 _ I2 e) λf s3 g=>?_);cases f with
  |next=>
   obtain⟨d,H3,I3,n3⟩:=g;obtain⟨j,k,p⟩:=q d H3 n3;exact⟨j,k,d,H3,I3,p⟩
  |cont=>
   obtain⟨d,H3,I3,n3⟩:=g;obtain⟨j,k,p⟩:=q d H3 n3;exact⟨j,k,d,H3,I3,p⟩
  |brk=>exact g
  |ret v=>exact g
 |false=>
  exact ab8 ⟨σ1,H2,I2,e⟩
end
structure It where
 go:Nat->Hp->Prop
 KI:Nat->Hp->V->Hp->Prop
 stop:Nat->Hp->Prop
def j9(X:Cx)(pins:Ψ)(H:Hp)(b:Addr):Prop:=
 H b=none/\b≠X.env.locals/\b∉X.fs/\(b∈X.ex\/X.s₀.heap.objs.size<=b)/\(∀x c,X.env.cells.lookup x=some c->c≠b)/\∀p∈X.pn++pins,p.1≠b
def Inv.Im{X:Cx}{pins:Ψ}{σ:St}{H H':Hp}{s:Shared}{b:Addr}(I:Inv X pins σ H s)(Z:s.heap.objs.size<=b)(hn:H' b=none):j9 X pins H' b:=by
 refine⟨hn,adH (WU I.lt Z),I.YC Z,.inr (aaN I.sz Z),λx c e z=>?_,λp a z=>?_⟩
 .obtain⟨v,q⟩:=I.cell x c e;exact absurd (WU q.lt (by rw[z];exact Z)) (aa6 _)
 .exact absurd (WU (aaF (I.pin p a).1) (by rw[z];exact Z)) (aa6 _)
structure Turn(P:Program)(w:World)(K:Φ)(tg:Expr)(J:It)(fp:Y1)(it:Addr)(tn:Nat->Heap->Prop):Prop where
 mem:it∈fp
 obj:∀i h,tn i h->∀b∈fp,∃o,h.get? b=some o/\∀v,o.data≠.cell v
 keep:∀i h h',tn i h->(∀b∈fp,∀o,h.get? b=some o->h'.get? b=some o)->tn i h'
 item:∀(X:Cx),X.prog=P->X.w=w->X.K=K->X.calm=true->∀(i:Nat) (pins:Ψ) (s:Shared) (σ:St) (H:Hp) (E:Ξ),Inv X pins σ H s->(∀b∈fp,j9 X pins H b)->tn i s.heap->J.go i H->
  wpAny (model P w) X.A (pyNext (.ref it)) (λr s1=>∃u,r=some u/\
   wpAny (model P w) X.A (letOwnedTupleGo tg (.ref it) u) (λ_ s2=>∃x H',Inv X pins σ H' s2/\RelV x u/\J.KI i H x H'/\tn (i+1) s2.heap/\∀b∈fp,H' b=none) E s1) E s
 done:∀(X:Cx),X.prog=P->X.w=w->X.K=K->X.calm=true->∀(i:Nat) (pins:Ψ) (s:Shared) (σ:St) (H:Hp) (E:Ξ),Inv X pins σ H s->(∀b∈fp,j9 X pins H b)->tn i s.heap->J.stop i H->
  wpAny (model P w) X.A (pyNext (.ref it)) (λr s1=>r=none/\Inv X pins σ H s1) E s
 self:∀(A:Around) (i:Nat) (s:Shared) (Q:Ξ) (E:Ξ),tn i s.heap->Q (.ref it) s->wpAny (model P w) A (pyIter (.ref it)) Q E s
abbrev TI:=St->Hp->(It->Hp->Prop)->Prop
def Wa(X:Cx)(pins:Ψ)(σ:St)(tg:Expr)(R:It->Hp->Prop)(itv:Value)(s2:Shared):Prop:=
 ∃(it:Addr) (fp:Y1) (tn:Nat->Heap->Prop) (J:It) (H':Hp),itv=.ref it/\Inv X pins σ H' s2/\Turn X.prog X.w X.K tg J fp it tn/\tn 0 s2.heap/\(∀b∈fp,j9 X pins H' b)/\R J H'
def PI(X:Cx)(tg z:Expr)(I:TI):Prop:=
 ∀(pins:Ψ) (s:Shared) (σ:St) (H:Hp) (R:It->Hp->Prop),Inv X pins σ H s->I σ H R->
  wpAny (model X.prog X.w) X.A (eval z X.env) (λv s1=>wpAny (model X.prog X.w) X.A (pyIter v) (Wa X pins σ tg R) X.xe s1) X.xe s
def Dl(ho:s.heap.get? it=some o)(hc:o.cls=.type n)(hd:o.data=.fields vs)(hn:["enumerate","zip","dict_itemiterator","dict_reverseitemiterator","odict_iterator","itertools.zip_longest","itertools.pairwise"].contains n=false)(z:Q () s):wpAny M A (letOwnedTupleGo tg (.ref it) u) Q E s:=by
  cases tg<;>first
    |exact ZM z
    | (cases u<;>first
        |exact ZM z
        | (refine gV (wpAny_load ho ?_)
           rw[hc,hd];show wpAny M A (if (["enumerate","zip","dict_itemiterator","dict_reverseitemiterator","odict_iterator","itertools.zip_longest","itertools.pairwise"].contains n&&vs[0]?==some (rawInt _))=true then _ else _) Q E s;rw[aaH (by intro h;rw[hn,Bool.false_and]at h;exists h)];exact ZM z))
def Wb(K:Φ)(a:Addr):It:=
 ⟨λi H=>∃xs x,gK K H a xs/\xs[i]?=some x,λi H x H'=>H'=H/\∀xs,gK K H a xs->xs[i]?=some x,λi H=>∃xs,gK K H a xs/\xs.length<=i⟩
def Wd(K:Φ)(a:Addr):It:=
 ⟨λi H=>∃xs x,dI K H a xs/\xs[i]?=some x,λi H x H'=>H'=H/\∀xs,dI K H a xs->xs[i]?=some x,λi H=>∃xs,dI K H a xs/\xs.length<=i⟩
def KJ(lo:Int)(n:Nat):It:=⟨λi _=>i<n,λi H x H'=>H'=H/\x=.int (lo+i),λi _=>n<=i⟩
def EY{K:Φ}(a it:Addr):Turn P w K tg (Wb K a) [it] it (λi h=>h.IsListIter it a i) where
 mem:=by simp
 obj:=λi h f b j=>by
  have e:b=it:=by simpa using j
  subst e;obtain⟨o,e,c,d⟩:=f;exact⟨o,e,λv z=>by rw[d]at z;exists z⟩
 keep:=λi h r f k=>f.at λo e=>k it (by simp) o e
 item:=by
  intro X A B C J i g s σ H E I hf f hg;subst A B C;obtain⟨xs,x,y,F⟩:=hg;obtain⟨G,rv,p,hz⟩:=I.list y;obtain⟨u,L,M⟩:=rv.get F;obtain⟨f0,f1,f2,f3,f4,f5⟩:=hf it (by simp);refine wpAny_pyNext_list_item f p.isList (x:=u) (by simpa using L) λr q N=>?_;have I1:Inv X g σ H { s with heap:=r }:=I.turned (t':=s.toks) (λb o j e=>(N.2 b j).trans e) f0 f1 f3 f4 f5;obtain⟨o,e,c,d⟩:=id q;exact⟨u,rfl,Dl (s:={ s with heap:=r }) e c d (by decide) ⟨x,H,I1,M,⟨rfl,λZ Q=>by rw[I.Ii Q y];exact F⟩,q,λb j=>(hf b j).1⟩⟩
 done:=by
  intro X A B C J i g s σ H E I hf f hg;subst A B C;obtain⟨xs,y,F⟩:=hg;obtain⟨G,rv,p,hz⟩:=I.list y;obtain⟨f0,f1,f2,f3,f4,f5⟩:=hf it (by simp);have hl:=rv.length;exact wpAny_pyNext_list_end (I.ok.hd J) f p.isList (by simp;lia) λr Y=>⟨rfl,I.turned (t':=s.toks) (λb o j e=>Y b o j e) f0 f1 f3 f4 f5⟩
 self:=λ_ _ _ _ _ f h=>wpAny_pyIter_listiter f h
def Dm{K:Φ}(a it:Addr):Turn P w K tg (Wd K a) [it] it (λi h=>h.IsTupleIter it a i) where
 mem:=by simp
 obj:=λi h f b g=>by
  have e:b=it:=by simpa using g
  subst e;obtain⟨o,e,c,d⟩:=f;exact⟨o,e,λv z=>by rw[d]at z;exists z⟩
 keep:=λi h G f k=>f.at λo e=>k it (by simp) o e
 item:=by
  intro X A B C J i q s σ H E I hf f hg;subst A B C;obtain⟨xs,x,y,F⟩:=hg;obtain⟨j,rv,p,hz⟩:=I.tuple y;obtain⟨u,L,M⟩:=rv.get F;obtain⟨f0,f1,f2,f3,f4,f5⟩:=hf it (by simp);refine wpAny_pyNext_tuple_item f (show s.heap.IsTuple a j.toArray from p) (by simpa using L) λG r N=>?_;have I1:=I.turned (t':=s.toks) (λb o g e=>(N.2 b g).trans e) f0 f1 f3 f4 f5;obtain⟨o,e,c,d⟩:=id r;exact⟨u,rfl,Dl e c d (by decide) ⟨x,H,I1,M,⟨rfl,λZ Q=>by rw[I.qT Q y];exact F⟩,r,λb g=>(hf b g).1⟩⟩
 done:=by
  intro X A B C J i q s σ H E I hf f hg;subst A B C;obtain⟨xs,y,F⟩:=hg;obtain⟨j,rv,p,hz⟩:=I.tuple y;obtain⟨f0,f1,f2,f3,f4,f5⟩:=hf it (by simp);have hl:=rv.length;exact wpAny_pyNext_tuple_end (I.ok.hd J) f (show s.heap.IsTuple a j.toArray from p) (by simp;lia) λG Y=>⟨rfl,I.turned (t':=s.toks) (λb o g e=>Y b o g e) f0 f1 f3 f4 f5⟩
 self:=λ_ _ _ _ _ f h=>wpAny_pyIter_tupleiter f h
def Dn{K:Φ}(it:Addr)(lo:Int)(n:Nat):Turn P w K tg (KJ lo n) [it] it (λi h=>IsRangeIter h it (lo+(i:Nat)*1) ((n:Int) - (i:Nat)) 1) where
 mem:=by simp
 obj:=λi h a b d=>by
  have e:b=it:=by simpa using d
  subst e;exact⟨_,a,λv z=>by
   have x:=z
   exists x⟩
 keep:=λi h g a k=>k it (by simp) _ a
 item:=by
  intro X p q r j i c s σ H E I hf a hg;subst p q r;obtain⟨f0,f1,f2,f3,f4,f5⟩:=hf it (by simp);have W:=Walks.range (prog:=X.prog) (w:=X.w) (I.ok.hd j) it lo 1 n;refine W.item i s _ _ hg a λv g tk y f A=>?_;obtain⟨t,rfl⟩:=y;have I1:Inv X c σ H { s with heap:=g,toks:=tk }:=I.turned (λb o d e=>A b o (by simpa using d) e) f0 f1 f3 f4 f5;refine⟨_,rfl,Dl f rfl rfl (by decide) ⟨.int (lo+i),H,I1,⟨t,?_⟩,⟨rfl,rfl⟩,f,λb d=>(hf b d).1⟩⟩;rw[Int.mul_one]
 done:=by
  intro X p q r j i c s σ H E I hf a hg;obtain⟨f0,f1,f2,f3,f4,f5⟩:=hf it (by simp);exact wpAny_pyNext_range_end (I.ok.hd j) a (by have:n<=i:=hg;lia) λg B=>⟨rfl,I.turned (t':=s.toks) (λb o d e=>B b o d e) f0 f1 f3 f4 f5⟩
 self:=λ_ _ _ _ _ a h=>wpAny_pyIter_rangeiter a h
section
variable{X:Cx}{tg:Expr}
def Io{pins:Ψ}{σ:St}{H:Hp}{s:Shared}{R:It->Hp->Prop}{E:Ξ}{lo hi:Int}{t u v:Tok}{tk:Nat}(I:Inv X pins σ H s)(h1:-(2 ^ 62)<=lo)(h2:lo<2 ^ 62)(z:-(2 ^ 62)<=hi)(Z:hi<2 ^ 62)(q:R (KJ lo (hi - lo).toNat) H):wpAny (model X.prog X.w) X.A (pyIter (.ref s.heap.objs.size)) (Wa X pins σ tg R) E { s with heap:=s.heap.push { cls:=.type "range",data:=.fields #[.int lo t,.int hi u,.int 1 v]},toks:=tk }:=by
 refine wpAny_pyIter_range (IsRange.new ..) (small_one h1 h2 z Z) ?_;have I1:Inv X pins σ H { s with heap:=s.heap.push { cls:=.type "range",data:=.fields #[.int lo t,.int hi u,.int 1 v]},toks:=tk }:=I.kept λb o e=>aaa _ e;refine⟨(s.heap.push { cls:=.type "range",data:=.fields #[.int lo t,.int hi u,.int 1 v]}).objs.size,[(s.heap.push { cls:=.type "range",data:=.fields #[.int lo t,.int hi u,.int 1 v]}).objs.size],_,_,H,rfl,
  I1.kept (t':=tk) λb o e=>aaa _ e,Dn _ lo (hi - lo).toNat,?_,λb a=>?_,q⟩
 .have c:lo+((0:Nat):Int)*1=lo:=by simp
  have d:(((hi - lo).toNat:Nat):Int) - ((0:Nat):Int)=Builtin.Range.rangeSize lo hi 1:=by rw[rangeSize_one];split<;>lia
  show IsRangeIter _ _ (lo+((0:Nat):Int)*1) ((((hi - lo).toNat:Nat):Int) - ((0:Nat):Int)) 1;rw[c,d];exact aaQ _ rfl
 .have e:b=(s.heap.push { cls:=.type "range",data:=.fields #[.int lo t,.int hi u,.int 1 v]}).objs.size:=by simpa using a
  subst e;exact I1.Im (aaB _) (I1.hok.fresh (aaB _))
def UR(z:TA):TI:=λσ H R=>z σ H λa H1=>∃j:Int,a=[.int j]/\-(2 ^ 62)<=j/\j<2 ^ 62/\R (KJ 0 j.toNat) H1
def EZ(z:Gl X "range")(Z:X.mg "range" = none)(ha:PA X [a] ta)(hs:starEach [a] X.env=[(false,eval a X.env)]:=by rfl):PI X tg (.Call (.Name "range" p) [a] [] pos) (UR ta):=by
 intro b s σ H R I h;refine Call_ (o4 I z Z boot_range (abC (bx (ha pos b s σ H _ I h) λk s1 zr=>?_) hs rfl));obtain⟨x,H1,I1,d,c⟩:=zr;obtain⟨j,e,c,f,q⟩:=c;subst e;cases d with
 |cons r g=>
  cases g;obtain⟨t,rfl⟩:=r;exact call_range_1 (Io I1 (by lia) (by lia) c f (by simpa using q))
def YM(z:TI)(g:TG)(tb:TS):TS:=λD σ H=>z σ H λJ H1=>∃W:Nat->Nat->St->Hp->Prop,(∃m,W 0 m σ H1)/\∀i m σ H,W i m σ H->
 (J.stop i H/\D.nx σ H)\/(J.go i H/\∃N:St->Hp->Prop,(∀σ' H',N σ' H'->∃m',m'<m/\W (i+1) m' σ' H')/\∀x H',J.KI i H x H'->g x σ H' λσ2 H2=>tb { D with nx:=N,ct:=N,bk:=D.nx } σ2 H2)
def qV(fp:Y1)(h:Heap):Ψ:=fp.filterMap λb=>(h.get? b).map λo=>(b,o)
def mz(z:b∈fp)(e:h.get? b=some o):(b,o)∈qV fp h:=List.mem_filterMap.mpr ⟨b,z,by rw[e];rfl⟩
def E1(z:p∈qV fp h):p.1∈fp/\h.get? p.1=some p.2:=by
 obtain⟨b,a,e⟩:=List.mem_filterMap.mp z;cases q:h.get? b with
 |none=>rw[q]at e;exists e
 |some o=>
  rw[q]at e;have c:=abi e;subst c;exact⟨a,q⟩
def Inv.pinned{pins:Ψ}{σ:St}{H:Hp}{s:Shared}{fp:Y1}(I:Inv X pins σ H s)(Z:∀b∈fp,j9 X pins H b)(ho:∀b∈fp,∃o,s.heap.get? b=some o/\∀v,o.data≠.cell v):Inv X (pins++qV fp s.heap) σ H s:=
 I.BG λp f=>(k8 f).elim (λz=>I.pin p (aa3 _ z)) λz=>by
  obtain⟨a,e⟩:=E1 z;obtain⟨f0,f1,f2,_⟩:=Z p.1 a;obtain⟨o,c,d⟩:=ho p.1 a;rw[e]at c;exists c;exact⟨e,f0,f1,f2,d⟩
def Inv.pS{pins pl:Ψ}{σ:St}{H:Hp}{s:Shared}(I:Inv X (pins++pl) σ H s):Inv X pins σ H s:=I.BG λp a=>I.pin p (aa3 _ (abl _ a))
def Pq(hp:PassesOwn (model X.prog X.w) X.A X.env X.xe)(hc:X.calm=true)(hi:PI X tg iter wi)(hg:PG X tg g)(hb:fT X body tb)(hs:∀x,foldedSetIterable iter X.env x=pure x:=by intro _;rfl):PS X (.For tg iter body [] pos) (YM wi g tb):=by
 intro a s σ H D I h;refine wpAny_For (bx (hi a s σ H _ I h) λv s1 G=>bx G λitv s2 K=>?_) hs;obtain⟨it,p,C,J,H2,e,I2,T,y,f2,W,⟨m0,L⟩,turn⟩:=K;subst e;have z:∀{H':Hp},(∀b∈p,H' b=none)->∀b∈p,j9 X a H' b:=λM b hb=>⟨M b hb,(f2 b hb).2⟩
 refine codeAny_forLoop_any (λn F=>∃i σ' H',Inv X a σ' H' F/\C i F.heap/\(∀b∈p,H' b=none)/\W i n σ' H') ?_ m0 ⟨0,σ,H2,I2,y,λb hb=>(f2 b hb).1,L⟩;rintro n s3 ⟨i,σ3,H3,I3,st3,cB,w3⟩;rcases turn i n σ3 H3 w3 with ⟨q,P⟩|⟨go,N,Q,step⟩
 .refine abD hp (bx (T.done X rfl rfl rfl hc i a s3 σ3 H3 X.xe I3 (z cB) st3 q) λr s4 zr=>?_);obtain⟨B,I4⟩:=zr;subst B;exact ab8 ⟨σ3,H3,I4,P⟩
 .refine abD hp (bx (T.item X rfl rfl rfl hc i a s3 σ3 H3 X.xe I3 (z cB) st3 go) λr s4 zr=>?_);obtain⟨u,B,Y⟩:=zr;subst B;refine abD hp (bx Y λ_ s5 zr=>?_);obtain⟨x,H5,I5,Z,y5,BK,u9⟩:=zr;have I5':=I5.pinned (z u9) (T.obj _ _ BK);refine abD hp (bx (hg _ s5 σ3 H5 x u _ I5' Z (step x H5 y5)) λ_ s6 zr=>?_);obtain⟨σ6,H6,I6,q6⟩:=zr;refine abD hp (bx (hb _ s6 σ6 H6 _ I6 q6) λf s7 k=>?_);have c:∀{j:St} {H7:Hp},Inv X (a++qV p s5.heap) j H7 s7->N j H7->∃m,m<n/\∃i σ' H',Inv X a σ' H' s7/\C i s7.heap/\(∀b∈p,H' b=none)/\W i m σ' H':=λ{j H7} I7 n7=>by
   obtain⟨m',hm,w7⟩:=Q j H7 n7;refine⟨m',hm,i+1,j,H7,I7.pS,T.keep _ _ _ BK λb hb o e=>(I7.pin (b,o) (aa3 _ (aa3 _ (mz hb e)))).1,λb hb=>?_,w7⟩;obtain⟨o,e,d⟩:=T.obj _ _ BK b hb;exact(I7.pin (b,o) (aa3 _ (aa3 _ (mz hb e)))).2.1
  cases f with
  |next=>obtain⟨j,H7,I7,n7⟩:=k;exact c I7 n7
  |cont=>obtain⟨j,H7,I7,n7⟩:=k;exact c I7 n7
  |brk=>obtain⟨j,H7,I7,k⟩:=k;exact⟨j,H7,I7.pS,k⟩
  |ret v=>obtain⟨x7,j,H7,I7,r7,k⟩:=k;exact⟨x7,j,H7,I7.pS,r7,k⟩
end
abbrev R2:=V->V->Hp->VK->Prop
def dY(X:Cx)(f:Value->Value->Sem Value)(r:R2):Prop:=
 ∀(pins:Ψ) (s:Shared) (σ:St) (H:Hp) (x y:V) (v u:Value) (Q:VK),Inv X pins σ H s->RelV x v->RelV y u->r x y H Q->
  wpAny (model X.prog X.w) X.A (f v u) (EP X pins σ Q) X.xe s
def Pr(X:Cx)(f:Value->Sem Value)(r:V->Hp->VK->Prop):Prop:=
 ∀(pins:Ψ) (s:Shared) (σ:St) (H:Hp) (x:V) (v:Value) (Q:VK),Inv X pins σ H s->RelV x v->r x H Q->
  wpAny (model X.prog X.w) X.A (f v) (EP X pins σ Q) X.xe s
def gG(X:Cx)(f:Value)(r:List V->Hp->VK->Prop):Prop:=
 ∀(pins:Ψ) (s:Shared) (σ:St) (H:Hp) (xs:T1) (us:Y2) (Q:VK),Inv X pins σ H s->Vals xs us->r xs H Q->
  wpAny (model X.prog X.w) X.A (call f us) (EP X pins σ Q) X.xe s
def YN(X:Cx)(r:V->Hp->(Bool->Hp->Prop)->Prop):Prop:=
 ∀(pins:Ψ) (s:Shared) (σ:St) (H:Hp) (x:V) (v:Value) (Q:Bool->Hp->Prop),Inv X pins σ H s->RelV x v->r x H Q->
  wpAny (model X.prog X.w) X.A (truthy v) (TP X pins σ Q) X.xe s
def E2(r:R2)(z tb:TE):TE:=λσ H Q=>z σ H λx H1=>tb σ H1 λy H2=>r x y H2 Q
def tUn(r:V->Hp->VK->Prop)(z:TE):TE:=λσ H Q=>z σ H λx H1=>r x H1 Q
def rI(C:Int->Int->Prop)(g:Int->Int->V):R2:=λx y H Q=>∃i j,x=.int i/\y=.int j/\C i j/\Q (g i j) H
def vc(g:Int->Int->V):R2:=λx y H Q=>∃i j,x=.int i/\y=.int j/\Q (g i j) H
def rU(g:Int->V):V->Hp->VK->Prop:=λx H Q=>∃i,x=.int i/\Q (g i) H
section
variable{X:Cx}{a b:Expr}{ta tb:TE}{pos:Pos}
def Ip(z:PE X a ta)(Z:PE X b tb){pins:Ψ}{s:Shared}{σ:St}{H:Hp}{R:V->V->Hp->Prop}(I:Inv X pins σ H s)(h:ta σ H λx H1=>tb σ H1 λy H2=>R x y H2){Q:Ξ}{f:Value->Value->Sem Value}(hf:∀v u s2 x y H2,Inv X pins σ H2 s2->RelV x v->RelV y u->R x y H2->wpAny (model X.prog X.w) X.A (f v u) Q X.xe s2):
  wpAny (model X.prog X.w) X.A (eval a X.env) (λv s₁=>wpAny (model X.prog X.w) X.A (eval b X.env) (λu s₂=>wpAny (model X.prog X.w) X.A (f v u) Q X.xe s₂) X.xe s₁) X.xe s:=by
 refine bx (z pins s σ H _ I h) λv s1 zr=>?_;obtain⟨x,H1,I1,c,d⟩:=zr;refine bx (Z pins s1 σ H1 _ I1 d) λu s2 zr=>?_;obtain⟨y,H2,I2,e,g⟩:=zr;exact hf v u s2 x y H2 I2 c e g
def US(ho:dY X (binaryOp op) r)(z:PE X a ta)(Z:PE X b tb):PE X (.BinOp a op b pos) (E2 r ta tb):=by
 intro c s σ H Q I h;exact wpAny_BinOp (Ip z Z I h λv u s2 x y H2 I2 d e q=>ho c s2 σ H2 x y v u Q I2 d e q)
def KL(ho:Pr X (unaryOp op) r)(z:PE X a ta):PE X (.UnaryOp op a pos) (tUn r ta):=by
 intro c s σ H Q I h;exact UnaryOp_ (bx (z c s σ H _ I h) λv s1 ⟨x,H1,I1,d,e⟩=>ho c s1 σ H1 x v Q I1 d e)
def Pu{g:Int->Int->Int}(z:∀(i j:Int) (t u:Tok) (s:Shared) (Q:Ξ) (E:Ξ),C i j->Q (.int (g i j) s.toks) { s with toks:=s.toks+1 }->wpAny (model X.prog X.w) X.A (f (.int i t) (.int j u)) Q E s):
  dY X f (rI C λi j=>.int (g i j)):=by
 intro c s σ H x y v u Q I rx ry h;obtain⟨i,j,rfl,rfl,d,q⟩:=h;obtain⟨t,rfl⟩:=rx;obtain⟨e,rfl⟩:=ry;exact z i j t e s _ _ d ⟨.int (g i j),H,I.tok _,⟨_,rfl⟩,q⟩
def Pw{g:Int->Int->Int}(z:∀(i j:Int) (t u:Tok) (s:Shared) (Q:Ξ) (E:Ξ),Q (.int (g i j) s.toks) { s with toks:=s.toks+1 }->wpAny (model X.prog X.w) X.A (f (.int i t) (.int j u)) Q E s):
  dY X f (vc λi j=>.int (g i j)):=by
 intro c s σ H x y v u Q I rx ry h;obtain⟨i,j,rfl,rfl,q⟩:=h;obtain⟨t,rfl⟩:=rx;obtain⟨d,rfl⟩:=ry;exact z i j t d s _ _ ⟨.int (g i j),H,I.tok _,⟨_,rfl⟩,q⟩
def Dp{g:Int->Int->Bool}(z:∀(i j:Int) (t u:Tok) (s:Shared) (Q:Ξ) (E:Ξ),Q (.bool (g i j)) s->wpAny (model X.prog X.w) X.A (f (.int i t) (.int j u)) Q E s):
  dY X f (vc λi j=>.bl (g i j)):=by
 intro c s σ H x y v u Q I rx ry h;obtain⟨i,j,rfl,rfl,q⟩:=h;obtain⟨t,rfl⟩:=rx;obtain⟨d,rfl⟩:=ry;exact z i j t d s _ _ ⟨.bl (g i j),H,I,rfl,q⟩
def YO(i j:Int):Prop:=0<j/\j<1073741824
def Iq(i j:Int):Prop:=(-(2 ^ 64)<i/\i<2 ^ 64)\/(-(2 ^ 64)<j/\j<2 ^ 64)
def Iq.ok(h:Iq i j):IntMulOk i j:=by
 rcases h with ⟨c,d⟩|⟨c,d⟩
 .exact .of_left (intBits_le_64 c d)
 .exact .of_right (intBits_le_64 c d)
def Px:dY X (binaryOp .Add) (vc λi j=>.int (i+j)):=Pw λ_ _ _ _ _ _ _ q=>add_int q
def Py:dY X (binaryOp .Sub) (vc λi j=>.int (i - j)):=Pw λ_ _ _ _ _ _ _ q=>sub_int q
def Pz:dY X (binaryOp .Mult) (rI Iq λi j=>.int (i*j)):=Pu λ_ _ _ _ _ _ _ c q=>mul_int q c.ok
def MC:dY X (binaryOp .FloorDiv) (rI YO λi j=>.int (i / j)):=Pu λi j _ _ _ _ _ c q=>by
 have d:=c.1;have e:=c.2;exact floordiv_int (by lia) (by rw[Int.fdiv_eq_ediv_of_nonneg i (by lia)];exact q) (.inl (PyProof.noPylong_small (by lia)))
def PB:dY X (binaryOp .Mod) (rI (λ_ j=>0<j) λi j=>.int (i % j)):=Pu λi j _ _ _ _ _ c q=>by
 have d:(0:Int)<j:=c;exact mod_int' (by lia) (by rw[Int.fmod_eq_emod_of_nonneg i (by lia)];exact q)
def unI{g:Int->Int}(z:∀(i:Int) (t:Tok) (s:Shared) (Q:Ξ) (E:Ξ),Q (.int (g i) s.toks) { s with toks:=s.toks+1 }->wpAny (model X.prog X.w) X.A (f (.int i t)) Q E s):
  Pr X f (rU λi=>.int (g i)):=by
 intro c s σ H x v Q I rx h;obtain⟨i,rfl,q⟩:=h;obtain⟨t,rfl⟩:=rx;exact z i t s _ _ ⟨.int (g i),H,I.tok _,⟨_,rfl⟩,q⟩
def E3:Pr X (unaryOp .USub) (rU λi=>.int (-i)):=unI λ_ _ _ _ _ q=>neg_int q
end
def YQ:V->V->Bool
 |.aN,.aN=>true|.aN,.int _=>true|.int _,.aN=>true|.aN,.bl _=>true|.bl _,.aN=>true|.aN,.str _=>true|.str _,.aN=>true
 |.int _,.int _=>true|.bl _,.bl _=>true|.str _,.str _=>true|.qC _,.qC _=>true
 |.int _,.str _=>true|.str _,.int _=>true|.bl _,.str _=>true|.str _,.bl _=>true
 |_,_=>false
def rNe:R2:=λx y H Q=>YQ x y=true/\Q (.bl (!decide (x=y))) H
def MD:decide (V.int i=V.int j)=(i==j):=by
 rw[acK];simp
def PC:decide (V.bl i=V.bl j)=(i==j):=by
 rw[acK];simp
def MF:decide (V.str i=V.str j)=(i==j):=by
 rw[acK];simp
def MG:decide (V.qC i=V.qC j)=(i.toList==j.toList):=by
 rw[acK];cases i;cases j;simp
section
variable{X:Cx}{a b c:Expr}{ta tb tc:TE}{pos:Pos}
def fU{pins:Ψ}{σ:St}{H:Hp}{s:Shared}{Q:VK}{k z:Bool}(I:Inv X pins σ H s)(q:Q (.bl k) H)(e:k=z):EP X pins σ Q (.bool z) s:=by
 subst e;exact⟨.bl k,H,I,rfl,q⟩
def UT:dY X (compareOp .NotEq) rNe:=by
 intro f s σ H x y v u Q I rx ry h;obtain⟨e,q⟩:=h;cases x with
 |aN=>
  cases rx;cases y with
  |aN=>cases ry;exact PySem.EqNone.ne_none_none (fU I q (by simp))
  |bl j=>cases ry;exact PySem.EqNone.ne_none_bool (fU I q (by simp))
  |int j=>obtain⟨d,rfl⟩:=ry;exact PySem.EqNone.ne_none_int (fU I q (by simp))
  |str j=>obtain⟨d,rfl⟩:=ry;exact PySem.EqNone.ne_none_str (fU I q (by simp))
  |_=>exact absurd (show false=true from e) aa5
 |bl i=>
  cases rx;cases y with
  |aN=>cases ry;exact PySem.EqNone.ne_bool_none (fU I q (by simp))
  |bl j=>cases ry;exact ne_bool (fU I q (aaL not PC))
  |str j=>obtain⟨d,rfl⟩:=ry;exact PySem.EqMixed.ne_bool_str (fU I q (by simp))
  |_=>exact absurd (show false=true from e) aa5
 |int i=>
  obtain⟨t,rfl⟩:=rx;cases y with
  |aN=>cases ry;exact PySem.EqNone.ne_int_none (fU I q (by simp))
  |int j=>obtain⟨d,rfl⟩:=ry;exact ne_int (fU I q (aaL not MD))
  |str j=>obtain⟨d,rfl⟩:=ry;exact PySem.EqMixed.ne_int_str (fU I q (by simp))
  |_=>exact absurd (show false=true from e) aa5
 |str i=>
  obtain⟨t,rfl⟩:=rx;cases y with
  |aN=>cases ry;exact PySem.EqNone.ne_str_none (fU I q (by simp))
  |bl j=>cases ry;exact PySem.EqMixed.ne_str_bool (fU I q (by simp))
  |int j=>obtain⟨d,rfl⟩:=ry;exact PySem.EqMixed.ne_str_int (fU I q (by simp))
  |str j=>obtain⟨d,rfl⟩:=ry;exact ne_str (fU I q (aaL not MF))
  |_=>exact absurd (show false=true from e) aa5
 |qC i=>
  obtain⟨t,rfl⟩:=rx;cases y with
  |qC j=>obtain⟨d,rfl⟩:=ry;exact W.ne_bytes (fU I q (aaL not MG))
  |_=>exact absurd (show false=true from e) aa5
 |_=>cases y<;>exact absurd (show false=true from e) aa5
def UU:dY X (compareOp .Lt) (vc λi j=>.bl (decide (i<j))):=Dp λ_ _ _ _ _ _ _ q=>lt_int q
def UW:dY X (compareOp .LtE) (vc λi j=>.bl (decide (i<=j))):=Dp λ_ _ _ _ _ _ _ q=>le_int q
def UX:dY X (compareOp .Gt) (vc λi j=>.bl (decide (j<i))):=Dp λ_ _ _ _ _ _ _ q=>gt_int q
def UY:dY X (compareOp .GtE) (vc λi j=>.bl (decide (j<=i))):=Dp λ_ _ _ _ _ _ _ q=>ge_int q
def lI(b:Expr)(h:op≠.In:=by decide)(h2:op≠.NotIn:=by decide):behindInMarks op b=false:=by
 have d:(op==CmpOp.In)=false:=by cases op<;>first|rfl|exact absurd rfl h
 have e:(op==CmpOp.NotIn)=false:=by cases op<;>first|rfl|exact absurd rfl h2
 cases b<;>simp[behindInMarks,d,e]
def MH(ho:dY X (compareOp op) r)(z:PE X a ta)(Z:PE X b tb)(hm:behindInMarks op b=false):PE X (.Compare a [op] [b] pos) (E2 r ta tb):=by
 intro d s σ H Q I h;exact wpAny_Compare1 (Ip z Z I h λv u s2 x y H2 I2 e f q=>ho d s2 σ H2 x y v u Q I2 e f q) hm
def Dq(t:TE):TT:=λσ H Q=>t σ H λx H'=>∃k,x=.bl k/\Q k H'
def BL(ho:dY X (compareOp op) r)(Z:PE X a ta)(hb:PE X b tb)(hm:behindInMarks op b=false):PT X (.Compare a [op] [b] pos) (Dq (E2 r ta tb)):=by
 intro d s σ H Q I h;refine wpAny_isTrue_Compare1 (bx (Z d s σ H _ I h) λv s1 ⟨x,H1,I1,f,g⟩=>bx (hb d s1 σ H1 _ I1 g) λu s2 ⟨y,H2,I2,j,p⟩=>
  bx (ho d s2 σ H2 x y v u _ I2 f j p) λc s3 ⟨z,H3,I3,q,k,e,A⟩=>?_) hm
 subst e;cases q;exact abS ⟨H3,I3,A⟩
def E4(r r':R2)(ta tb tc:TE):TE:=λσ H Q=>ta σ H λx H1=>tb σ H1 λy H2=>r x y H2 λz H3=>∃k,z=.bl k/\
 (if k=true then tc σ H3 λd H4=>r' y d H4 Q else Q (.bl false) H3)
def Ir{op op':CmpOp}{r r':R2}(ho:dY X (compareOp op) r)(ho':dY X (compareOp op') r')(ha:PE X a ta)(hb:PE X b tb)(hc:PE X c tc)(hm:lastMarks [op,op'] [b,c]=false:=by with_unfolding_all rfl):PT X (.Compare a [op,op'] [b,c] pos) (Dq (E4 r r' ta tb tc)):=by
 intro f s σ H Q I h;refine isTrue_chain (bx (ha f s σ H _ I h) λv s1 ⟨x,H1,I1,p,q⟩=>test_link (bx (hb f s1 σ H1 _ I1 q) λu s2 ⟨y,H2,I2,g,A⟩=>
  bx (ho f s2 σ H2 x y v u _ I2 p g A) λd s3 ⟨z,H3,I3,B,k,e,j⟩=>?_)) hm
 subst e;cases B;refine abS ?_;cases k with
 |false=>
  obtain⟨W,C,F⟩:=j
  exists C
  exact ite_ff ⟨H3,I3,F⟩
 |true=>
  refine ite_tt (test_last (bx (hc f s3 σ H3 _ I3 j) λG s4 ⟨J,H4,I4,K,L⟩=>bx (ho' f s4 σ H4 y J u G _ I4 g K L) λY s5 zr=>?_));obtain⟨Z,H5,I5,M,k2,N,P⟩:=zr;subst N;cases M;exact abS ⟨H5,I5,P⟩
def Iu(K:Φ)(x:V)(H:Hp)(k:Bool):Prop:=
 match x with
 |.aN=>k=false
 |.bl b=>k=b
 |.int i=>k=(i != 0)
 |.str y=>y.length<=sizeLine/\k=((y.length:Int) != 0)
 |.qC y=>y.size<=sizeLine/\k=((y.size:Int) != 0)
 |.ref p=>(∃xs,gK K H p xs/\k = !xs.isEmpty)\/(∃xs,dI K H p xs/\k = !xs.isEmpty)\/∃kvs,H p=some (.dK kvs)/\k = !kvs.isEmpty
 |_=>False
def Dr{κ:Type}{kvs:List (κ×V)}{vs:List (κ×Value)}(r:KV kvs vs):(!vs.isEmpty) = !kvs.isEmpty:=by
 cases r<;>rfl
def ve(r:Vals xs z):(!z.toArray.isEmpty) = !xs.isEmpty:=by
 cases r<;>simp
def qX:(sizeLine:Nat)<2 ^ 63:=by decide
def PD:YN X (λx H Q=>∃k,Iu X.K x H k/\Q k H):=by
 intro B s σ H x v Q I rx h;obtain⟨k,e,q⟩:=h;have C:=abQ;cases x with
 |aN=>
  cases rx;have d:=e;subst d;exact truthy_none ⟨H,I,q⟩
 |bl b=>
  cases rx;have d:=e;subst d;exact abS ⟨H,I,q⟩
 |int i=>
  obtain⟨t,rfl⟩:=rx;have d:=e;subst d;exact PySem.P.truthy_int ⟨H,I,q⟩
 |str y=>
  obtain⟨t,rfl⟩:=rx;obtain⟨hy,d⟩:y.length<=sizeLine/\k=((y.length:Int) != 0):=e;subst d;exact PySem.P.truthy_str (by lia) ⟨H,I.tok _,q⟩
 |qC y=>
  obtain⟨t,rfl⟩:=rx;obtain⟨hy,d⟩:y.size<=sizeLine/\k=((y.size:Int) != 0):=e;subst d;exact W.truthy_bytes (by lia) ⟨H,I.tok _,q⟩
 |ref p=>
  cases rx;have d:(∃xs,gK X.K H p xs/\k = !xs.isEmpty)\/(∃xs,dI X.K H p xs/\k = !xs.isEmpty)\/∃f,H p=some (.dK f)/\k = !f.isEmpty:=e;rcases d with ⟨xs,j,d⟩|⟨xs,j,d⟩|⟨f,j,d⟩
  .subst d;obtain⟨z,r,A,hz⟩:=I.list j;have g:=r.length;exact wpAny_truthy_list A.isList (by simp only[aaz];lia) ⟨H,I.tok _,by rw[ve r];exact q⟩
  .subst d;obtain⟨z,r,A,hz⟩:=I.tuple j;have g:=r.length;exact truthy_tuple A (by simp only[aaz];lia) ⟨H,I.tok _,by rw[ve r];exact q⟩
  .subst d;obtain⟨hz,hS,vs,r,m⟩:f.length<=sizeLine/\(p==sysModules)=false/\∃vs,KV f vs/\s.heap.DictOf (wF X.prog X.w) p vs:=I.hok p _ j;have g:f.length=vs.length:=Paired.length r;exact wpAny_truthy_dict hS m (by lia) ⟨H,I.tok _,by rw[Dr r];exact q⟩
 |_=>exact(show False from e).elim
def zF(z:PE X a ta)(Z:∀whole,isTrue a X.env whole=(do let v <-whole;standAt a.pos;holding [v] (truthy v))):
  PT X a (λσ H Q=>ta σ H λx H'=>∃k,Iu X.K x H' k/\Q k H'):=by
 intro d s σ H Q I h;exact isTrue_plain (bx (z d s σ H _ I h) λv s1 ⟨x,H1,I1,e,f⟩=>PD d s1 σ H1 x v Q I1 e f) (Z _)
def Ds:dY X (binaryOp .Add) (λx y H Q=>∃i j,x=.str i/\y=.str j/\i.length+j.length<=sizeLine/\Q (.str (i++j)) H):=by
 intro d s σ H x y v u Q I rx ry h;obtain⟨i,j,rfl,rfl,hz,q⟩:=h;obtain⟨t,rfl⟩:=rx;obtain⟨e,rfl⟩:=ry;exact add_str (λe tk=>⟨.str (i++j),H,I.tok _,⟨_,rfl⟩,q⟩) hz
def vals1(r:Vals [x] us):∃u,us=[u]/\RelV x u:=by
 cases r with
 |cons d e=>cases e;exact⟨_,rfl,d⟩
def vals2(r:Vals [x,y] us):∃u w',us=[u,w']/\RelV x u/\RelV y w':=by
 cases r with
 |cons d e=>
  cases e with
  |cons f g=>cases g;exact⟨_,_,rfl,d,f⟩
def E5(hc:X.calm=true):gG X (.builtin "max") (λxs H Q=>∃i j,xs=[.int i,.int j]/\Q (.int (if j > i then j else i)) H):=by
 intro e s σ H xs us Q I r h;obtain⟨i,j,rfl,q⟩:=h;obtain⟨u,f,rfl,⟨t,rfl⟩,⟨g,rfl⟩⟩:=vals2 r;refine max_two_ints (I.ok.hd hc) λp tk k=>⟨_,H,I.kept k,?_,q⟩
 by_cases d:j > i
 .rw[OL d,OL d];exact⟨_,rfl⟩
 .rw[aaH d,aaH d];exact⟨_,rfl⟩
def E6(hc:X.calm=true):gG X (.builtin "min") (λxs H Q=>∃i j,xs=[.int i,.int j]/\Q (.int (if j<i then j else i)) H):=by
 intro e s σ H xs us Q I r h;obtain⟨i,j,rfl,q⟩:=h;obtain⟨u,f,rfl,⟨t,rfl⟩,⟨g,rfl⟩⟩:=vals2 r;refine min_two_ints (I.ok.hd hc) λp tk k=>⟨_,H,I.kept k,?_,q⟩
 by_cases d:j<i
 .rw[OL d,OL d];exact⟨_,rfl⟩
 .rw[aaH d,aaH d];exact⟨_,rfl⟩
end
structure uB(h:Heap)(x dx C:Addr)(mA:W1):Prop where
 obj:h.get? x=some (W.instObj C dx)
 ns:h.Ns1 dx mA
 ne:dx≠x
def E7{h:Heap}(n:h.Ns1 dx mA):∃od,h.get? dx=some od/\∀name,W.lookIn name od=some (mA name):=by
 obtain⟨o,c,r,d,f,g,_,j⟩:=n;refine⟨o,d,λname=>?_⟩;have e:=j name;unfold nsFind findBy at e;rw[<-Array.find?_toList]at e;unfold W.lookIn;rw[f];dsimp only;split
 .rename_i y q;rw[q]at e;exact aaL some e
 .rename_i q;rw[q]at e;have a:c.toList.any (·.refKey)=false:=by
   rw[List.any_eq_false];intro y k;obtain⟨z,t,b⟩:=g y (Array.mem_toList_iff.mp k);simp[DictEntry.refKey,b]
  have p:¬ c.toList.any (·.refKey)=true:=by rw[a];exact aa5
  rw[aaH p];exact aaL some e
def uB.look(I:uB h x dx C mA):∃od,W.InstAt h x (W.instObj C dx) C (some od)/\∀name,W.lookIn name od=some (mA name):=
 let ⟨od,ho,hl⟩:=E7 I.ns
 ⟨od,⟨I.obj,rfl,rfl,ho⟩,hl⟩
section
variable{prog:Program}{w:World}{A:Around}{E:Ξ}{s:Shared}{K:Φ}{x dx C f:Addr}{mA:W1}{name:Str}{v:Value}
def get_map{z:Bool}{Q:Ξ}(X:K.In s.heap)(I:uB s.heap x dx C mA)(hg:W.plainGet K C name=true)(hh:W.hasDictIn K C=true)(ha:W.findIn K (.ref C) name=some none)(hv:mA name=some v)(Z:W.handedIn v=true)(h:Q v { s with toks:=s.toks+1 }):
  wpAny (model prog w) A (getAttr (.ref x) name z) Q E s:=by
 obtain⟨b,J,a⟩:=I.look;exact W.get_value X J (acN hg).1 (W.findObj_own hh ha rfl (by rw[a,hv])) Z h
def Iv{pl:Sem Bool}{Q:Value×List Value->Shared->Prop}(X:K.In s.heap)(I:uB s.heap x dx C mA)(z:W.plainGet K C name=true)(Z:W.findIn K (.ref C) name=some (some (.ref f)))(ht:W.isFn K (.ref f)=true)(hv:mA name=none)(h:Q (.ref f,[.ref x]) s):
  wpAny (model prog w) A (getMethod (.ref x) name pl) Q E s:=by
 obtain⟨a,J,b⟩:=I.look;exact W.method_fn X J (acN z).1 (acN z).2 Z (beq_iff_eq.mp ht) (by show(W.lookIn name a).map (·.isSome)=some false;rw[b,hv];rfl) h
def MI{ns:X9}{Q:Unit->Shared->Prop}(X:K.In s.heap)(I:uB s.heap x dx C mA)(Z:W.findIn K (.ref C) "__setattr__" = some (some (.builtin "object.__setattr__")))(hp:W.plainOver K C=true)(ht:W.takerIn K C name=some none)(hh:W.hasDictIn K C=true)(hw:PySem.Within mA ns)(hsz:ns.length<=sizeLine)(h:∀h',uB h' x dx C (λy=>if y=name then some v else mA y)->Heap.SameBut dx s.heap h'->Q () { s with heap:=h',toks:=s.toks+2 }):
  wpAny (model prog w) A (setAttr (.ref x) name v) Q E s:=by
 obtain⟨F,J,G⟩:=I.look;refine W.set_plain X J Z (W.osa_open (s:={ s with toks:=s.toks+1 }) (r:=none) X J hp ht λb=>?_);obtain⟨H,p,e⟩:=W.any_some hh;have q:s.heap.get? x=some ⟨.ref C,some dx,.plain,#[]⟩:=I.obj;refine gV (ZM (gV (gV (wpAny_loadPart q (gV (W.Looks.here (s:={ s with toks:=s.toks+1 }) (W.looks_clsIn X p) ?_))))));rw[e];refine ZM (a:=some dx) (gV (ZM (gV ?_)));refine wpAny_nsSet1 (s:={ s with toks:=s.toks+1 }) I.ns λh' c d=>?_;obtain⟨L,z,B,g,j,k⟩:=c.count (PySem.Within.cons name v hw);refine gV (wpAny_lookBehind g (by rw[j];exact pastItsLine_dict (aaN k (by rw[aaI];lia))) ?_);exact ZM (h _ ⟨(d.2 _ (abJ I.ne)).trans I.obj,c,I.ne⟩ d)
def Iw{R:Result->Shared->Prop}{vs:Y2}{z:List (Str×Value)}(X:K.In s.heap)(I:W.makesIn K C=true)(hi:W.findIn K (.ref C) "__init__" = some (some (.ref f)))(Z:W.typeIn K (.ref f)=some (.type "function"))(h:codeAny (model prog w) (A.under (.builtin "type.__call__" ⟨.ref C :: vs,z⟩)) (.call (.ref f) ⟨.ref (s.heap.objs.size+1) :: vs,z⟩) (W.InitBack (s.heap.objs.size+1) R)
   { s with heap:=(s.heap.push W.emptyDict).push (W.instObj C s.heap.objs.size)}):
  codeAny (model prog w) A (.call (.ref C) ⟨vs,z⟩) R s:=by
 obtain⟨b,g,d,t,c⟩:=s;exact W.make_core (W.makes_of X I) (W.looks_findIn X hi) (λa=>W.bind_fn X a Z) (.inl rfl) h
end
def bV(f:Str)(v:V):List (Str×V)->List (Str×V)
 |[]=>[(f,v)]
 | (g,x) :: r=>if g=f then (g,v) :: r else (g,x) :: bV f v r
theorem cU(f g:Str)(v:V):∀fs:List (Str×V),(bV f v fs).lookup g=if g=f then some v else fs.lookup g
 |[]=>by
  show List.lookup g [(f,v)]=_;by_cases h:g=f
  .have a:(g==f)=true:=beq_iff_eq.mpr h;simp only[List.lookup,a,OL h]
  .have a:(g==f)=false:=beq_eq_false_iff_ne.mpr h;simp only[List.lookup,a,aaH h]
 | (k,x) :: r=>by
  have c:=cU f g v r;rw[show bV f v ((k,x) :: r)=(if k=f then (k,v) :: r else (k,x) :: bV f v r)from rfl];by_cases b:k=f
  .rw[OL b];by_cases h:g=k
   .have a:(g==k)=true:=beq_iff_eq.mpr h;simp only[List.lookup,a,OL (h.trans b)]
   .have a:(g==k)=false:=beq_eq_false_iff_ne.mpr h;simp only[List.lookup,a,aaH (λe:g=f=>h (e.trans b.symm))]
  .rw[aaH b];by_cases h:g=k
   .have a:(g==k)=true:=beq_iff_eq.mpr h;simp only[List.lookup,a,aaH (λe:g=f=>b (h.symm.trans e))]
   .have a:(g==k)=false:=beq_eq_false_iff_ne.mpr h;simp only[List.lookup,a];exact c
theorem qY(f:Str)(v:V):∀fs:List (Str×V),f∈(bV f v fs).map (·.1)/\∀g,g∈fs.map (·.1)->g∈(bV f v fs).map (·.1)
 |[]=>⟨by simp[bV],λg h=>by simp at h⟩
 | (k,x) :: r=>by
  obtain⟨i1,i2⟩:=qY f v r;rw[show bV f v ((k,x) :: r)=(if k=f then (k,v) :: r else (k,x) :: bV f v r)from rfl];by_cases a:k=f
  .rw[OL a];subst a;exact⟨by simp,λg h=>by simpa using h⟩
  .rw[aaH a];refine⟨?_,λg h=>?_⟩
   .rw[aaD];exact aaM _ i1
   .rw[aaD]at h ⊢;rcases qE h with e|e
    .exact List.mem_cons.mpr (.inl e)
    .exact aaM _ (i2 g e)
theorem jH(f:Str)(v:V):∀fs:List (Str×V),(bV f v fs).length<=fs.length+1
 |[]=>by simp[bV]
 | (k,x) :: r=>by
  have b:=jH f v r;rw[show bV f v ((k,x) :: r)=(if k=f then (k,v) :: r else (k,x) :: bV f v r)from rfl];by_cases a:k=f
  .rw[OL a,aaI,aaI];lia
  .rw[aaH a,aaI,aaI];lia
def oK.some_of(r:oK (some v) o):∃u,o=some u/\RelV v u:=by
 cases o with
 |none=>exact(show False from r).elim
 |some u=>exact⟨u,rfl,r⟩
def oK.none_of{o:Option Value}(r:oK none o):o=none:=by
 cases o with
 |none=>rfl
 |some u=>exact(show False from r).elim
def E8{v:V}{u:Value}(r:RelV v u):W.handedIn u=true:=by
 cases v with
 |aN=>cases (show u=Value.none from r);rfl
 |bl b=>cases (show u=Value.bool b from r);rfl
 |int i=>obtain⟨t,e⟩:=(show ∃t,u=Value.int i t from r);cases e;rfl
 |str x=>obtain⟨t,e⟩:=(show ∃t,u=Value.str x t from r);cases e;rfl
 |qC b=>obtain⟨t,e⟩:=(show ∃t,u=Value.bytes b t from r);cases e;rfl
 |Kw b=>obtain⟨t,e⟩:=(show ∃t,u=Value.float b t from r);cases e;rfl
 |ref a=>cases (show u=Value.ref a from r);rfl
 |ty n=>cases (show u=Value.type n from r);rfl
section
variable{P:Program}{w:World}{H:Hp}{h:Heap}{a C dx:Addr}{fs:List (Str×V)}
def wJ(hok:gA P w H h)(e:H a=some (.ins C dx fs)):∃mA,uB h a dx C mA/\(∀f,oK (fs.lookup f) (mA f))/\PySem.Within mA (fs.map (·.1))/\fs.length<=1000/\H dx=some (.own a):=by
 obtain⟨d,z,b,c,mA,n,r,q⟩:=(show gF P w H h a (.ins C dx fs)from hok a _ e)
 exact⟨mA,⟨c,n,b⟩,r,q,z,d⟩
end
structure mZ(K:Φ)(C:Addr):Prop where
 pg:W.plainGet K C Str.empty=true
 hd:W.hasDictIn K C=true
 po:W.plainOver K C=true
 sa:W.findIn K (.ref C) "__setattr__" = some (some (.builtin "object.__setattr__"))
def mZ.get{K:Φ}(c:mZ K C)(f:Str):W.plainGet K C f=true:=c.pg
def iy(K:Φ)(C:Addr)(f:Str):Prop:=W.findIn K (.ref C) f=some none
def iy.UZ{K:Φ}{C:Addr}{f:Str}(n:iy K C f):W.takerIn K C f=some none:=by
 unfold W.takerIn;rw[show W.findIn K (.ref C) f=some none from n];rfl
structure Meth(K:Φ)(C:Addr)(m:Str)(f:Addr):Prop where
 at_:W.findIn K (.ref C) m=some (some (.ref f))
 fn:W.isFn K (.ref f)=true
 kp:W.keepIn K (.ref f)=true
section
variable{X:Cx}{pins:Ψ}{σ:St}{H:Hp}{s:Shared}{a C dx:Addr}{fs:List (Str×V)}{f:Str}{v:V}{A:Around}{E:Ξ}
def Dt{b:Bool}{Q:Ξ}(I:Inv X pins σ H s)(e:H a=some (.ins C dx fs))(c:mZ X.K C)(n:iy X.K C f)(l:fs.lookup f=some v)(h:∀u s',Inv X pins σ H s'->RelV v u->Q u s'):wpAny (model X.prog X.w) A (getAttr (.ref a) f b) Q E s:=by
 obtain⟨g,O,r,_,_,_⟩:=wJ I.hok e;obtain⟨u,j,d⟩:=oK.some_of (v:=v) (o:=g f) (by rw[<-l];exact r f);exact get_map I.iu O (c.get f) c.hd n j (E8 d) (h u _ (I.tok _) d)
def mC{m:Str}{g:Addr}{pl:Sem Bool}{Q:Value×List Value->Shared->Prop}(I:Inv X pins σ H s)(e:H a=some (.ins C dx fs))(c:mZ X.K C)(k:Meth X.K C m g)(l:fs.lookup m=none)(h:Q (.ref g,[.ref a]) s):wpAny (model X.prog X.w) A (getMethod (.ref a) m pl) Q E s:=by
 obtain⟨b,O,r,_,_,_⟩:=wJ I.hok e;have d:b m=none:=oK.none_of (by rw[<-l];exact r m);exact Iv I.iu O (c.get m) k.at_ k.fn d h
def Dv{y:V}{u:Value}{Q:Unit->Shared->Prop}(I:Inv X pins σ H s)(e:H a=some (.ins C dx fs))(c:mZ X.K C)(n:iy X.K C f)(hl:fs.length<1000)(Z:RelV y u)(h:∀s',Inv X pins σ (upd H a (.ins C dx (bV f y fs))) s'->Q () s'):wpAny (model X.prog X.w) A (setAttr (.ref a) f u) Q E s:=by
 obtain⟨d,O,r,j,_,k⟩:=wJ I.hok e;have hz:(fs.map (·.1)).length<=sizeLine:=by rw[aaP,abQ];lia
 refine MI I.iu O c.sa c.po n.UZ c.hd j hz λp O' B=>h _ ?_;have F:∃o,p.get? dx=some o:=let ⟨o,_,_,e',_⟩:=O'.ns;⟨o,e'⟩;refine I.write (x:=a) (e:=dx) (by rw[e];exact True.intro) (.inr k) (λb q G z=>(B.2 b G).trans z) F ?_;refine⟨by rw[aQ O.ne];exact k,?_,O.ne,O'.obj,_,O'.ns,λg=>?_,λg J=>?_⟩
 .have:=jH f y fs;lia
 .show oK ((bV f y fs).lookup g) (if g=f then some u else d g);rw[cU];by_cases q:g=f
  .rw[OL q,OL q];exact Z
  .rw[aaH q,aaH q];exact r g
 .by_cases q:g=f
  .rw[q];exact(qY f y fs).1
  .refine(qY f y fs).2 g (j g λz=>J ?_);show(if g=f then some u else d g)=none;rw[aaH q];exact z
def Inv.made(I:Inv X pins σ H s):Inv X pins σ (upd (upd H s.heap.objs.size (.own (s.heap.objs.size+1))) (s.heap.objs.size+1) (.ins C s.heap.objs.size []))
  { s with heap:=(s.heap.push W.emptyDict).push (W.instObj C s.heap.objs.size)}:=by
 have c:(s.heap.push W.emptyDict).get? s.heap.objs.size=some W.emptyDict:=aaQ s.heap rfl;have g:((s.heap.push W.emptyDict).push (W.instObj C s.heap.objs.size)).get? (s.heap.objs.size+1)=some (W.instObj C s.heap.objs.size):=by
  have:=aaQ (s.heap.push W.emptyDict) (o:=W.instObj C s.heap.objs.size) rfl
  rwa [adq]at this
 have h:(s.heap.push W.emptyDict).Ns s.heap.objs.size (λ_=>none):=⟨W.emptyDict,#[],_,c,rfl,(λe j=>absurd j (by simp)),λ_=>rfl⟩
 have I1:=I.laid (a:=s.heap.objs.size) (o:=.own (s.heap.objs.size+1)) (h':=s.heap.push W.emptyDict) (t':=s.toks) (λb u q=>aaa _ q) (aaB _) ⟨_,c⟩;refine I1.laid (a:=s.heap.objs.size+1) (o:=.ins C s.heap.objs.size []) (t':=s.toks) (λb u q=>aaa _ q) (Nat.le_of_eq (adq _ _)) ?_;have d:s.heap.objs.size≠s.heap.objs.size+1:=aaV (abY _);refine⟨by rw[aQ d,bU],abu _,d,g,λ_=>none,(Heap.Ns1.of_empty h).at λo q=>aaa _ q,λ_=>True.intro,λy k=>absurd rfl k⟩
def MJ{prog:Program}{w:World}{env:Env}{e:Expr}{f:Str}{z:Pos}{s:Shared}{Q:Ξ}(I:q3 e f env)(h:wpAny (model prog w) A (eval e env) (λo s₁=>wpAny (model prog w) A (getAttr o f true) Q E s₁) E s):wpAny (model prog w) A (eval (.Attribute e f z) env) Q E s:=
 Attribute_any_ h (by rw[arm_eval_Attribute,I])
end
def YR(K:Φ)(z:TE)(f:Str):TE:=λσ H Q=>z σ H λx H1=>∃a C dx fs v,x=.ref a/\H1 a=some (.ins C dx fs)/\mZ K C/\iy K C f/\fs.lookup f=some v/\Q v H1
def YS(K:Φ)(z I:TE)(f:Str):TS:=λD σ H=>I σ H λy H1=>z σ H1 λx H2=>∃a C dx fs,x=.ref a/\H2 a=some (.ins C dx fs)/\mZ K C/\iy K C f/\fs.length<1000/\
 D.nx σ (upd H2 a (.ins C dx (bV f y fs)))
section
variable{X:Cx}{o e value:Expr}{f:Str}{pos pos':Pos}{ta tv:TE}
def E9(z:PE X e ta)(Z:q3 e f X.env):PE X (.Attribute e f pos) (YR X.K ta f):=by
 intro b s σ H Q I h;refine MJ Z (bx (z b s σ H _ I h) λu s1 zr=>?_);obtain⟨x,H1,I1,d,a,C,k,fs,v,ex,g,c,n,l,q⟩:=zr;subst ex;obtain rfl:u=Value.ref a:=d;exact Dt I1 g c n l λp s2 I2 j=>⟨v,H1,I2,j,q⟩
def zG(z:PE X o ta)(Z:PE X value tv)(hs:swapsWith value (some (.Attribute o f pos')) pos.line X.env=pure false):PS X (.Assign [.Attribute o f pos'] value pos) (YS X.K ta tv f):=by
 intro b s σ H D I h;refine plainObj_wpAny_Assign_Attribute (bx (Z b s σ H _ I h) λu s1 ⟨y,H1,I1,d,q⟩=>bx (z b s1 σ H1 _ I1 q) λg s2 zr=>?_) hs;obtain⟨x,H2,I2,j,a,C,r,fs,ex,k,c,n,l,p⟩:=zr;subst ex;obtain rfl:g=Value.ref a:=j;exact Dv I2 k c n l d λs3 I3=>⟨σ,_,I3,p⟩
end
structure fJ(k:Nat)(A:Around):Prop where
 hd:A.handled=none
 dp:A.depth+3*k+5<recursionLimit
 un:A.units+16*k+200<cLine
theorem fJ.deeper(r:fJ (k+1) A)(env:Env):fJ k (A.deeper env):=
 ⟨r.hd,by have:=r.dp;show A.depth+1+3*k+5<_;lia,by have:=r.un;show A.units+3+16*k+200<_;lia⟩
def Dw{A:Around}{C:Addr}{us:Y2}{z:List (Str×Value)}:(A.under (.builtin "type.__call__" ⟨.ref C :: us,z⟩)).depth=A.depth+1:=by
 first|rfl|simp[Around.under,Code.weight,Code.isCreation,Code.isGuard,Code.isCaller,Code.frames,Code.isFrame,guardIds]
def Dy{A:Around}{C:Addr}{us:Y2}{z:List (Str×Value)}:(A.under (.builtin "type.__call__" ⟨.ref C :: us,z⟩)).units=A.units+1:=by
 first|rfl|simp[Around.under,Code.cUnits,Code.frames,Code.isFrame]
def fJ.make{k:Nat}{A:Around}(r:fJ (k+1) A)(C:Addr)(us:Y2)(z:List (Str×Value)):fJ k (A.under (.builtin "type.__call__" ⟨.ref C :: us,z⟩)):=
 ⟨r.hd,by have:=r.dp;rw[Dw];lia,by have:=r.un;rw[Dy];lia⟩
theorem fJ.depth(r:fJ k A):A.depth<recursionLimit:=by have:=r.dp;lia
def PF:TA:=λ_ H Q=>Q [] H
def U0(z:TE)(tr:TA):TA:=λσ H Q=>z σ H λx H1=>tr σ H1 λxs H2=>Q (x :: xs) H2
section
variable{X:Cx}{e:Expr}{es:Kx}{te:TE}{t:TA}{pos:Pos}
def iz:PA X [] PF:=λ_ _ _ _ H Q I h=>acy ⟨[],H,I,.nil,h⟩
def fk(z:PE X e te)(hr:PA X es t)(Z:qN e es X.env:=by rfl):PA X (e :: es) (U0 te t):=by
 intro pos a s σ H Q I h;rw[Z];show wpAny _ _ (spliced ((false,eval e X.env) :: backTo pos (starEach es X.env))) _ _ s;refine aci (bx (z a s σ H _ I h) λu s1 zr=>?_);obtain⟨x,H1,I1,b,c⟩:=zr;exact bx (hr pos a s1 σ H1 _ I1 c) λg s2 ⟨xs,H2,I2,d,f⟩=>⟨x :: xs,H2,I2,.cons b d,f⟩
def YT(t:TA):TE:=λσ H Q=>t σ H λxs H1=>xs.length<=sizeLine/\∀p,H1 p=none->Q (.ref p) (upd H1 p (.tup xs))
def YU(t:TA):TE:=λσ H Q=>t σ H λxs H1=>xs.length<=sizeLine/\∀p,H1 p=none->Q (.ref p) (upd H1 p (.lst xs))
def Fb(h:PA X es t):PE X (.Tuple es x1 pos) (YT t):=by
 intro a s σ H Q I hq;refine wpAny_Tuple_spliced (bx (h pos a s σ H _ I hq) λc s1 ⟨xs,H1,I1,r,z,q⟩=>⟨by rw[<-r.length];exact z,?_⟩);have d:=I1.hok.fresh (aaB _);refine⟨.ref s1.heap.objs.size,upd H1 s1.heap.objs.size (.tup xs),I1.laid (λb u e=>aaa _ e) (aaB _) ?_,rfl,q _ d⟩;exact⟨z,c,r,⟨_,aaQ _ rfl,rfl,_,rfl⟩⟩
def vf(h:PA X es t):PE X (.List es pos) (YU t):=by
 intro a s σ H Q I hq;refine wpAny_List_spliced (bx (h pos a s σ H _ I hq) λc s1 ⟨xs,H1,I1,r,z,q⟩=>⟨by rw[<-r.length];exact z,?_⟩);have d:=I1.hok.fresh (aaB _);refine⟨.ref s1.heap.objs.size,upd H1 s1.heap.objs.size (.lst xs),I1.laid (λb u e=>aaa _ e) (aaB _) ?_,rfl,q _ d⟩;exact⟨z,c,0,r,aaQ _ rfl⟩
end
abbrev Sp:=List V->Hp->VK->XK->Prop
abbrev o5:=List Env->Hp->Shared->XK->Ξ
structure pU(P:Program)(w:World)(K:Φ)(mg:W1)(base:Heap)(A:Around)(outer:List Env)(s:Shared)(H:Hp):Prop where
 frames:A.frames=some outer
 mod:Mod K mg base
 bs:∀b o,base.get? b=some o->s.heap.get? b=some o/\H b=none
 qD:base.objs.size<=s.heap.objs.size
 jE:s.heap.FunFrames base outer
 qQ:∀b∈frs outer,H b=none
 hok:gA P w H s.heap
 bare:AllBare s.gens
def CE(outer:List Env)(P:Program)(w:World)(H:Hp)(s:Shared)(Q:VK)(u:Value)(s':Shared):Prop:=
 ∃v H',s'.os=s.os/\AllBare s'.gens/\Un (frs outer) [] H H' s.heap s'.heap/\gA P w H' s'.heap/\RelV v u/\Q v H'
def CR(CX:o5)(outer:List Env)(P:Program)(w:World)(H:Hp)(s:Shared)(Q:VK)(E:XK)(r:Result)(s':Shared):Prop:=
 match r with
 |.ok (.ret u)=>CE outer P w H s Q u s'
 |.ok _=>False
 |.error e=>CX outer H s E e s'
structure eT(P:Program)(w:World)(K:Φ)(mg:W1)(base:Heap)(CX:o5)(k:Nat)(f:Addr)(fd:FuncData)(ps:X9)(sp:Sp):Prop where
 len:∀vs H Q E,sp vs H Q E->vs.length=ps.length
 run:∀(A:Around) (outer:List Env) (s:Shared) (H:Hp) (args:Args) (us:Y2) (vs:T1) (Q:VK) (E:XK),fJ k A->pU P w K mg base A outer s H->BindsTo s fd args (ps.zip us)->Vals vs us->sp vs H Q E->
  codeAny (model P w) A (.call (.ref f) args) (CR CX outer P w H s Q E) s
def pU.make{P:Program}{w:World}{K:Φ}{mg:W1}{base:Heap}{A:Around}{outer:List Env}{s:Shared}{H:Hp}(e:pU P w K mg base A outer s H)(C:Addr)(us:Y2)(z:List (Str×Value)):
  pU P w K mg base (A.under (.builtin "type.__call__" ⟨.ref C :: us,z⟩)) outer s H:=⟨by first|exact e.frames | (simpa[Around.under,Code.envs,Code.isFrame,pushEnvs]using e.frames),e.mod,e.bs,e.qD,e.jE,e.qQ,e.hok,e.bare⟩
section
variable{X:Cx}{pins:Ψ}{σ:St}{H:Hp}{s s':Shared}
def Inv.lZ(I:Inv X pins σ H s):pU X.prog X.w X.K X.mg X.base X.A X.stack s H:=
 ⟨I.ok.frames,I.ok.mod,I.bs,aaN I.ok.qD I.sz,I.stack,I.wG,I.hok,I.bare⟩
def Inv.after(I:Inv X pins σ H s)(h:CE X.stack X.prog X.w H s Q u s'):EP X pins σ Q u s':=by
 obtain⟨v,H',f,a,un,c,r,q⟩:=h;obtain⟨j,g,d,t,e⟩:=s';obtain rfl:e=s.os:=f;exact⟨v,H',I.call un c a (λb z=>absurd z (by simp)),r,q⟩
end
def U1(sp:Sp)(fN:T1)(E:XK)(t:TA):TE:=λσ H Q=>t σ H λa H1=>sp (a++fN) H1 Q E
def KN(C:Addr)(m:Str)(sp:Sp)(fN:T1)(E:XK)(z:TE)(t:TA):TE:=λσ H Q=>z σ H λx H1=>∃a dx fs,x=.ref a/\H1 a=some (.ins C dx fs)/\fs.lookup m=none/\
 t σ H1 λb H2=>sp (x :: (b++fN)) H2 Q E
def U3(C:Addr)(sp:Sp)(fN:T1)(E:XK)(t:TA):TE:=λσ H Q=>t σ H λa H1=>∀x dx,H1 x=none->H1 dx=none->dx≠x->
 sp (.ref x :: (a++fN)) (upd (upd H1 dx (.own x)) x (.ins C dx [])) (λv H2=>v=.aN/\Q (.ref x) H2) E
def Binds(K:Φ)(fd:FuncData)(ps:X9)(ds:Y2):Prop:=
 ∀(s:Shared) (us:Y2),K.In s.heap->(us++ds).length=ps.length->BindsTo s fd ⟨us,[]⟩ (ps.zip (us++ds))
def Binds.all{K:Φ}(h:∀us:Y2,us.length=ps.length->bindArgs fd ⟨us,[]⟩=pure (ps.zip us)):Binds K fd ps []:=λs us _ a=>by
 rw[aaJ]at a ⊢;exact .of_eq (h us a)
def Passes(CX:o5)(X:Cx)(E:XK):Prop:=∀(pins:Ψ) (σ:St) (H:Hp) (s:Shared) (e:Value) (s':Shared),Inv X pins σ H s->CX X.stack H s E e s'->X.xe e s'
section
variable{X:Cx}{CX:o5}{k:Nat}{f C:Addr}{fd:FuncData}{ps:X9}{sp:Sp}{fN:T1}{ds:Y2}{E:XK}{x m:Str}{p pos apos:Pos}{e o:Expr}{es:Kx}{ta:TE}{t:TA}
def zH{pins:Ψ}{σ:St}{H:Hp}{s:Shared}{Q:VK}{us:Y2}{vs:T1}(F:eT X.prog X.w X.K X.mg X.base CX k f fd ps sp)(hr:fJ k X.A)(z:Binds X.K fd ps ds)(hd:Vals fN ds)(Z:Passes CX X E)(I:Inv X pins σ H s)(r:Vals vs us)(h:sp (vs++fN) H Q E):wpAny (model X.prog X.w) X.A (call (.ref f) us) (EP X pins σ Q) X.xe s:=by
 have b:Vals (vs++fN) (us++ds):=r.append hd;have c:(us++ds).length=ps.length:=by rw[<-b.length];exact F.len _ _ _ _ h
 refine aco (abT (F.run X.A X.stack s H ⟨us,[]⟩ (us++ds) (vs++fN) Q E hr I.lZ (z s us I.iu c) b h) λr d a=>?_);cases r with
 |error e=>exact Z pins σ H s e d I a
 |ok fl=>
  cases fl with
  |ret u=>exact I.after a
  |next=>exact False.elim a
  |brk=>exact False.elim a
  |cont=>exact False.elim a
def wK(F:eT X.prog X.w X.K X.mg X.base CX k f fd ps sp)(hr:fJ k X.A)(hg:Gl X x)(hm:X.mg x=some (.ref f))(hk:W.keepIn X.K (.ref f)=true)(hb:Binds X.K fd ps ds)(hd:Vals fN ds)(hx:Passes CX X E)(ha:PA X (e :: es) t)(z:(x==("__debug__":Str))=false:=by decide)(he:qN e es X.env:=by rfl)(Z:qW pos es X.env:=by rfl):
  PE X (.Call (.Name x p) (e :: es) [] pos) (U1 sp fN E t):=by
 intro a s σ H Q I h;refine abz (sO I hg hm ?_ z);refine acf (h₀:=X.base) I.ok.mod.dX hk (bx (ha pos a s σ H _ I h) λb s1 ⟨c,H1,I1,r,q⟩=>⟨I1.iu,?_⟩) he Z;exact zH F hr hb hd hx I1 r q
def MK{pl:Sem Bool}(he:PE X o ta)(c:mZ X.K C)(hm:Meth X.K C m f)(F:eT X.prog X.w X.K X.mg X.base CX k f fd ps sp)(hr:fJ k X.A)(hb:Binds X.K fd ps ds)(hd:Vals fN ds)(hx:Passes CX X E)(ha:PA X (e :: es) t)(z:qN e es X.env:=by rfl)(Z:qW pos es X.env:=by rfl)(ht:eval (.Call (.Attribute o m apos) (e :: es) [] pos) X.env=(do
   let ov <-eval o X.env
   standAt apos.atName
   let (f,first) <-holding [ov] (getMethod ov m pl)
   callWith pos f first (backTo pos (starEach (e :: es) X.env)) (backToKw pos (keywordEach [] X.env))):=by rfl):
  PE X (.Call (.Attribute o m apos) (e :: es) [] pos) (KN C m sp fN E ta t):=by
 intro b s σ H Q I h;refine abW (pl:=pl) (bx (he b s σ H _ I h) λu s1 zr=>?_) ht;obtain⟨x,H1,I1,d,a,y,fs,ex,g,l,q⟩:=zr;subst ex;obtain rfl:u=Value.ref a:=d;refine mC I1 g c hm l ?_;refine acf (first:=[.ref a]) (h₀:=X.base) I.ok.mod.dX hm.kp (bx (ha pos b s1 σ H1 _ I1 q) λus s2 ⟨vs,H2,I2,r,j⟩=>⟨I2.iu,?_⟩) z Z;exact zH (us:=.ref a :: us) (vs:=.ref a :: vs) F hr hb hd hx I2 (.cons rfl r) j
def Iz{pl:Sem Bool}(Z:PE X o ta)(c:mZ X.K C)(z:Meth X.K C m f)(F:eT X.prog X.w X.K X.mg X.base CX k f fd ps sp)(hr:fJ k X.A)(hb:Binds X.K fd ps ds)(hd:Vals fN ds)(hx:Passes CX X E)(ht:eval (.Call (.Attribute o m apos) [] [] pos) X.env=(do
   let ov <-eval o X.env
   standAt apos.atName
   let (f,first) <-holding [ov] (getMethod ov m pl)
   callWith pos f first (backTo pos (starEach [] X.env)) (backToKw pos (keywordEach [] X.env))):=by rfl):
  PE X (.Call (.Attribute o m apos) [] [] pos) (KN C m sp fN E ta PF):=by
 intro b s σ H Q I h;refine abW (pl:=pl) (bx (Z b s σ H _ I h) λu s1 zr=>?_) ht;obtain⟨x,H1,I1,d,a,j,fs,ex,g,l,q⟩:=zr;subst ex;obtain rfl:u=Value.ref a:=d;refine mC I1 g c z l ?_;exact adE (first:=[.ref a]) I1.iu z.kp (zH (us:=[.ref a]) (vs:=[.ref a]) F hr hb hd hx I1 (.cons rfl .nil) q)
structure Mk(K:Φ)(C f:Addr):Prop where
 makes:W.makesIn K C=true
 init:W.findIn K (.ref C) "__init__" = some (some (.ref f))
 fn:W.isFn K (.ref f)=true
 kp:W.keepIn K (.ref C)=true
def IA{pins:Ψ}{σ:St}{H:Hp}{s:Shared}{Q:VK}{us:Y2}{vs:T1}(M:Mk X.K C f)(F:eT X.prog X.w X.K X.mg X.base CX k f fd ps sp)(hr:fJ (k+1) X.A)(z:Binds X.K fd ps ds)(hd:Vals fN ds)(Z:Passes CX X E)(I:Inv X pins σ H s)(r:Vals vs us)(h:∀x dx,H x=none->H dx=none->dx≠x->sp (.ref x :: (vs++fN)) (upd (upd H dx (.own x)) x (.ins C dx [])) (λv H2=>v=.aN/\Q (.ref x) H2) E):
  wpAny (model X.prog X.w) X.A (call (.ref C) us) (EP X pins σ Q) X.xe s:=by
 have b:=h (s.heap.objs.size+1) s.heap.objs.size (I.hok.fresh (adL _)) (I.hok.fresh (aaB _)) (aaV (abY _));have I2:=Inv.made (C:=C) I;have c:Vals (V.ref (s.heap.objs.size+1) :: (vs++fN)) (Value.ref (s.heap.objs.size+1) :: (us++ds)):=.cons rfl (r.append hd);have d:(Value.ref (s.heap.objs.size+1) :: us++ds).length=ps.length:=by
  have e:=c.length;rw[F.len _ _ _ _ b]at e;exact e.symm
 refine aco (Iw (f:=f) I.iu M.makes M.init (beq_iff_eq.mp M.fn) (abT (F.run _ X.stack _ _ ⟨Value.ref (s.heap.objs.size+1) :: us,[]⟩ (Value.ref (s.heap.objs.size+1) :: (us++ds)) _ _ E (hr.make C us [])
  (I2.lZ.make C us []) (z _ (Value.ref (s.heap.objs.size+1) :: us) I2.iu d) c b) λr g a=>?_))
 cases r with
 |error e=>exact Z pins σ _ _ e g I2 a
 |ok fl=>
  cases fl with
  |ret u=>
   obtain⟨v,H',I3,rv,ev,j⟩:=I2.after a;subst ev;exact⟨rv,⟨V.ref (s.heap.objs.size+1),H',I3,rfl,j⟩⟩
  |next=>exact False.elim a
  |brk=>exact False.elim a
  |cont=>exact False.elim a
def ML(M:Mk X.K C f)(F:eT X.prog X.w X.K X.mg X.base CX k f fd ps sp)(hr:fJ (k+1) X.A)(hg:Gl X x)(hm:X.mg x=some (.ref C))(hb:Binds X.K fd ps ds)(hd:Vals fN ds)(hx:Passes CX X E)(ha:PA X (e :: es) t)(z:(x==("__debug__":Str))=false:=by decide)(he:qN e es X.env:=by rfl)(Z:qW pos es X.env:=by rfl):
  PE X (.Call (.Name x p) (e :: es) [] pos) (U3 C sp fN E t):=by
 intro a s σ H Q I h;refine abz (sO I hg hm ?_ z);refine acf (h₀:=X.base) I.ok.mod.dX M.kp (bx (ha pos a s σ H _ I h) λb s1 ⟨c,H1,I1,r,q⟩=>⟨I1.iu,?_⟩) he Z;exact IA M F hr hb hd hx I1 r q
end
structure aW(N P:X9)(sc:Scope):Prop where
 kind:sc.kind=.function
 co:sc.isCoroutine=false
 gen:sc.isGenerator=false
 nd:N.Nodup
 pre:N.take P.length=P
 par:∀x∈P,sc.names.lookup x=some .local\/sc.names.lookup x=some .cell
 PJ:∀y∈sc.names,y.2≠.free
theorem xZ{kindOf:Str->Option NameKind}:∀{binds:List (Str×Value)}{m:W1},(∀v,(x,v)∉binds)->bindL kindOf binds m x=m x
 |[],_,_=>rfl
 | (n,v) :: r,m,h=>by
  unfold bindL;rw[xZ λw a=>h w (aaM _ a)];split
  .have:x≠n:=by rintro rfl;exact h v aa4
   simp[this]
  .rfl
theorem yc{kindOf:Str->Option NameKind}:∀{binds:List (Str×Value)}{m:W1},(∀v,(x,v)∉binds)->bindC kindOf binds m x=m x
 |[],_,_=>rfl
 | (n,v) :: r,m,h=>by
  unfold bindC;rw[yc λw a=>h w (aaM _ a)];split
  .rfl
  .have:x≠n:=by rintro rfl;exact h v aa4
   simp[this]
theorem yd{kindOf:Str->Option NameKind}:∀{P:X9}{vs:Y2}{i:Nat}{m:W1},P.Nodup->P[i]?=some x->vs[i]?=some v->kindOf x=some .local->
  bindL kindOf (P.zip vs) m x=some v
 |[],_,_,_,_,h,_,_=>by simp at h
 |_ :: _,[],_,_,_,_,h,_=>by simp at h
 |p :: P,w :: vs,0,m,nd,h1,h2,hk=>by
  simp at h1 h2;subst h1;subst h2;show bindL kindOf ((p,w) :: P.zip vs) m p=_;unfold bindL;rw[xZ λv a=>(List.nodup_cons.mp nd).1 (acH a).1,OL hk];simp
 |p :: P,w :: vs,i+1,m,nd,h1,h2,hk=>by
  show bindL kindOf ((p,w) :: P.zip vs) m x=_;unfold bindL;exact yd (i:=i) (List.nodup_cons.mp nd).2 (by simpa using h1) (by simpa using h2) hk
theorem ye{kindOf:Str->Option NameKind}{v:Value}:∀{P:X9}{vs:Y2}{i:Nat}{m:W1},P.Nodup->P[i]?=some x->vs[i]?=some v->kindOf x≠some .local->
  bindC kindOf (P.zip vs) m x=some v
 |[],_,_,_,_,h,_,_=>by simp at h
 |_ :: _,[],_,_,_,_,h,_=>by simp at h
 |p :: P,w :: vs,0,m,nd,h1,h2,hk=>by
  simp at h1 h2;subst h1;subst h2;show bindC kindOf ((p,w) :: P.zip vs) m p=_;unfold bindC;rw[yc λv a=>(List.nodup_cons.mp nd).1 (acH a).1,aaH hk];simp
 |p :: P,w :: vs,i+1,m,nd,h1,h2,hk=>by
  show bindC kindOf ((p,w) :: P.zip vs) m x=_;unfold bindC;exact ye (i:=i) (List.nodup_cons.mp nd).2 (by simpa using h1) (by simpa using h2) hk
def start(N:X9)(vs:T1):St:=vs.map some++List.replicate (N.length - vs.length) none
def l6(CX:o5)(P:Program)(w:World)(K:Φ)(mg:W1)(base:Heap)(N:X9)(qual:Str)(scope:Scope)(f:Addr)(z:Value)(A:Around)(outer:List Env)(s:Shared)(H:Hp)(E:XK):Cx where
 prog:=P
 w:=w
 K:=K
 mg:=mg
 base:=base
 A:=A.deeper (envOfC qual scope s.heap.objs.size f z)
 N:=N
 s₀:=s
 H₀:=H
 env:=envOfC qual scope s.heap.objs.size f z
 outer:=outer
 stack:=envOfC qual scope s.heap.objs.size f z :: outer
 ex:=[]
 calm:=true
 fn:=λ_=>true
 pn:=[]
 xe:=λe b=>wpAny (model P w) (A.deeper (envOfC qual scope s.heap.objs.size f z)) (leaving (envOfC qual scope s.heap.objs.size f z) e) (λ_ a=>CX outer H s E e a) (λc a=>CX outer H s E c a) b
def zI{sc:Scope}(h:sc.names.lookup x=some .cell):∃c,(cellsFrom n sc.names []).lookup x=some c:=by
 have q:=acA sc.names n [] (.inl h);exact gN q
def yf{CX:o5}{P:Program}{w:World}{K:Φ}{mg:W1}{base:Heap}{N ps:X9}{qual:Str}{scope:Scope}{f:Addr}{cd:Value}{A:Around}{outer:List Env}{s s1:Shared}{H:Hp}{E:XK}{us:Y2}{vs:T1}(S:aW N ps scope)(hd:A.handled=none)(Z:pU P w K mg base A outer s H)(hl:vs.length=ps.length)(r:Vals vs us)(x:InCallC s s.heap.objs.size (bindL (envOfC qual scope s.heap.objs.size f cd).kindOf (ps.zip us) λ_=>none) (cellsFrom (s.heap.objs.size+1) scope.names []) (bindC (envOfC qual scope s.heap.objs.size f cd).kindOf (ps.zip us) λ_=>none) s1):
  Inv (l6 CX P w K mg base N qual scope f cd A outer s H E) [] (start N vs) H s1:=by
 have I:ps.length<=N.length:=by have:=aaL List.length S.pre;rw[abk]at this;lia
 obtain⟨B,tk,rfl,F⟩:=x.done;have Fc:∀b:Addr,b∉(l6 CX P w K mg base N qual scope f cd A outer s H E).ex:=λb z=>absurd (show b∈([]:Y1)from z) (by simp);refine⟨⟨Z.mod,S.kind,rfl,rfl,aaB _,λy z c B d=>?_,λy g=>?_,λy c _ h=>?_,λ_=>hd,Around.frames_deeper Z.frames,.inr ⟨rfl,rfl⟩,λb z=>absurd z (Fc b),Z.bs,Z.qD,λb _ _=>Fc b,λb z=>absurd z (Fc b),Z.jE,Z.qQ⟩,
  rfl,Z.bare,Un.kept F,⟨_,x.toInCall.ns,λi y v B d L=>?_⟩,λy c h=>⟨_,x.cell y c h⟩,Z.hok.fresh (aaB _),λy c h=>?_,λp j=>absurd (show p∈([]:Ψ)from j) (by simp),Z.hok.kept F,?_⟩
 .exact name_of_addr x.apart (abL B) (abL d)
 .have g:scope.names.lookup y=some .cell\/scope.names.lookup y=some .free:=g;rcases g with g|g
  .exact zI g
  .exact absurd rfl (S.PJ _ (abL g))
 .exact adI (x.above y c (abL h))
 .have C:i<vs.length:=by
   unfold start at d;by_cases C:i<vs.length
   .exact C
   .rw[aaY (by simpa using C)]at d;rw[adj]at d;split at d<;>cases d
  have J:vs[i]?=some v:=by
   unfold start at d;rw[jk (by simpa using C),aaU]at d;cases e:vs[i]? with
   |none=>rw[e]at d;exists d
   |some a=>rw[e]at d;cases d;rfl
  obtain⟨u,G,rv⟩:=r.get J;have j:ps[i]?=some y:=by
   rw[<-S.pre,adh (by lia)];exact B
  have We:ps.Nodup:=by rw[<-S.pre];exact S.nd.sublist (List.take_sublist _ _)
  refine⟨u,rv,?_⟩;rcases S.par y (aaC j)with k|k
  .exact .inl ⟨k,yd We j G k⟩
  .obtain⟨c,e⟩:=zI (n:=s.heap.objs.size+1) k;refine .inr ⟨.inl k,c,e,?_⟩;have q:=x.cell y c e;rw[ye We j G (by show scope.names.lookup y≠_;rw[k];decide)]at q;exact q
 .exact Z.hok.fresh (adI (x.above y c (abL h)))
 .unfold start;show _=N.length;rw[aaE,aaP,adx];lia
def KO{CX:o5}{P:Program}{w:World}{K:Φ}{mg:W1}{base:Heap}{k:Nat}{f:Addr}{name qual:Str}{Z:Arguments}{body:List Stmt}{scope:Scope}{dV kV doc pm cdv ct oc:Value}{an od:Option Addr}{osl:Array (Option Value)}{N ps:X9}{sp:Sp}(lk:K.lookup f=some ⟨oc,od,.func (W.fnOf name qual Z body scope dV kV doc pm an cdv ct),osl⟩)(hcd:W.codeIn K cdv qual=true)(S:aW N ps scope)(len:∀vs H Q E,sp vs H Q E->vs.length=ps.length)(hbody:∀(A:Around) (outer:List Env) (s:Shared) (H:Hp) (vs:T1) (Q:VK) (E:XK),fJ k (A.deeper (envOfC qual scope s.heap.objs.size f cdv))->sp vs H Q E->
   ∃t,fT (l6 CX P w K mg base N qual scope f cdv A outer s H E) body t/\t { nx:=λ_ H'=>Q .aN H',rt:=Q } (start N vs) H):
  eT P w K mg base CX (k+1) f (W.fnOf name qual Z body scope dV kV doc pm an cdv ct) ps sp:=by
 refine⟨len,λA outer s H args B vs Q E h d C r z=>?_⟩;have F:=len _ _ _ _ z;have KX:K.In s.heap:=d.mod.dX.keeps λb o e=>(d.bs b o e).1;have j:s.heap.NoLimit:=d.mod.nolimit.keeps λb o e=>(d.bs b o e).1;have a:∀y∈ps.zip B,scope.names.lookup y.1=some .local\/(scope.names.lookup y.1=some .cell/\((cellsFrom (s.heap.objs.size+1) scope.names []).lookup y.1).isSome=true):=λ⟨n,v⟩ G=>by
  rcases S.par n (acH G).1 with q|q
  .exact .inl q
  .exact .inr ⟨q,acA _ _ _ (.inl q)⟩
 refine codeAny_call_function h.depth (KX _ _ lk) rfl S.co S.gen rfl (adJ KX hcd) (C _ _ _ _ ?_);refine acU S.kind a λL M s1 x=>?_;subst M;refine⟨j.keeps x.toInCall.keep,codeAny_func ?_⟩;obtain⟨t,X,Y⟩:=hbody A outer s H vs Q E (h.deeper _) z;have I:Inv (l6 CX P w K mg base N qual scope f cdv A outer s H E) [] (start N vs) H s1:=yf S h.hd d F r x;refine aaZ (X [] s1 (start N vs) H _ I Y) (λfl p c=>?_) λe p c=>c;have fin:∀{g:St} {H':Hp} {v:V} {u:Value},Inv (l6 CX P w K mg base N qual scope f cdv A outer s H E) [] g H' p->RelV v u->Q v H'->CE outer P w H s Q u p:=
  λ{g H' v u} J rv q=>⟨v,H',J.os,J.bare,J.base,J.hok,rv,q⟩
 cases fl with
 |ret u=>
  obtain⟨v,g,H',J,rv,q⟩:=c;exact fin J rv q
 |next=>
  obtain⟨g,H',J,q⟩:=c;exact fin (v:=V.aN) (u:=Value.none) J rfl q
 |brk=>
  obtain⟨_,_,_,q⟩:=c;exact False.elim q
 |cont=>
  obtain⟨_,_,_,q⟩:=c;exact False.elim q
section
variable{X:Cx}{x:Str}{p pos:Pos}{e:Expr}{es:Kx}{t:TA}{id T:String}{r:List V->Hp->VK->Prop}
def PK(r:List V->Hp->VK->Prop)(t:TA):TE:=λσ H Q=>t σ H λa H1=>r a H1 Q
def uC(hc:gG X (.builtin id) r)(hg:Gl X x)(hm:X.mg x=none)(hv:bootBuiltins x=some (.builtin id))(ha:PA X (e :: es) t)(hn:x≠"__name__" :=by decide)(z:(x==("__debug__":Str))=false:=by decide)(he:qN e es X.env:=by rfl)(Z:qW pos es X.env:=by rfl):PE X (.Call (.Name x p) (e :: es) [] pos) (PK r t):=by
 intro a s σ H Q I h;refine abz (o4 I hg hm hv ?_ hn z);exact PyProof.Rows.callWith_builtin1 (bx (ha pos a s σ H _ I h) λb s1 ⟨c,H1,I1,d,f⟩=>hc a s1 σ H1 c b Q I1 d f) he Z
def yg(hc:gG X (.type T) r)(hg:Gl X x)(hm:X.mg x=none)(hv:bootBuiltins x=some (.type T))(ha:PA X (e :: es) t)(hn:x≠"__name__" :=by decide)(z:(x==("__debug__":Str))=false:=by decide)(he:qN e es X.env:=by rfl)(Z:qW pos es X.env:=by rfl):PE X (.Call (.Name x p) (e :: es) [] pos) (PK r t):=by
 intro a s σ H Q I h;refine abz (o4 I hg hm hv ?_ hn z);exact abC (bx (ha pos a s σ H _ I h) λb s1 ⟨c,H1,I1,d,f⟩=>hc a s1 σ H1 c b Q I1 d f) he Z
end
end L2
namespace HT
open PySem PyProof.Rows
section
variable{prog:Program}{w:World}{A:Around}{E:Ξ}{s:Shared}
def MM(ht:IsTup s.heap t vs.toArray)(hb:IsTup s.heap b z.toArray)(Z:vs≠[])(h1:z=[]->Q (.ref t) s)(h2:z≠[]->Q (.ref s.heap.objs.size) { s with heap:=s.heap.push { cls:=.type "tuple",data:=.seq (vs++z).toArray }})(I:vs.length+z.length<=sizeLine):wpAny (model prog w) A (binaryOp .Add (.ref t) (.ref b)) Q E s:=by
 obtain⟨⟨cls,p,data,q⟩,f,r,n,x⟩:=id ht;obtain⟨⟨YV,c,h,d⟩,a,j,n2,k⟩:=id hb;subst r x j k;have e:vs.toArray++z.toArray=(vs++z).toArray:=by simp
 by_cases g:z=[]
 .exact concat_meets ⟨_,f,rfl⟩ ⟨_,a,rfl⟩ ac8 seq_tuple_add acC acq (acn _ _)
   (tuple_addW1 t b vs.toArray z.toArray n n2 p c q d (by simpa using Z) (by simp[g])) ⟨f,a,h1 g⟩
 .refine concat_meets ⟨_,f,rfl⟩ ⟨_,a,rfl⟩ ac8 seq_tuple_add acC acq (acn _ _)
   (tuple_addW2 t b vs.toArray z.toArray n n2 p c q d (by simpa using Z) (by simpa using g) (by exact I)) ⟨f,a,?_⟩
  rw[e];exact h2 g
def aY(n d:Nat):Option Int->Nat
 |none=>d
 |some v=>if v<0 then (v+(n:Int)).toNat else min v.toNat n
def Fd(n d:Nat)(hd:d<=n)(o:Option Int):aY n d o<=n:=by
 cases o with
 |none=>exact hd
 |some v=>
  show(if v<0 then (v+n).toNat else min v.toNat n)<=n;by_cases a:v<0
  .lia
  .rw[aaH a];exact Nat.min_le_right _ _
def BN(v:Int)(n d:Nat):(if v<0 then max (v+(n:Int)) 0 else min v (n:Int))=((aY n d (some v):Nat):Int):=by
 show(if v<0 then max (v+n) 0 else min v n)=(((if v<0 then (v+(n:Int)).toNat else min v.toNat n):Nat))
 by_cases a:v<0
 .lia
 .lia
def Dz(lo hi:Option Int)(n:Nat):Builtin.Slice.sliceAdjust lo hi 1 (n:Int)=(((aY n 0 lo:Nat):Int),((aY n n hi:Nat):Int)):=by
 refine Prod.ext ?_ ?_
 .cases lo with
  |none=>rfl
  |some v=>exact BN v n 0
 .cases hi with
  |none=>rfl
  |some v=>exact BN v n n
def DA(i j:Nat):Builtin.Slice.slicePlaces (i:Int) (j:Int) 1=j - i:=by
 unfold Builtin.Slice.slicePlaces;have a:1 > 0:=by lia
 split<;>lia
def vg(p:IsPart v o)(h:Q o s):wpAny (model prog w) A (Builtin.Slice.slicePartIndex v) Q E s:=by
 cases p with
 |none=>exact slicePart_none h
 |int i t=>exact slicePart_int h
def m5{lo hi:Option Int}{Q:Int×Int×Nat->Shared->Prop}(z:s.heap.IsSliceOf sl vl vu .none)(pl:IsPart vl lo)(I:IsPart vu hi)(h:Q (((aY n 0 lo:Nat):Int),1,aY n n hi - aY n 0 lo) s):wpAny (model prog w) A (Builtin.Slice.sliceApplied (.ref sl) (pure (n:Int))) Q E s:=by
 obtain⟨d,a,c,b⟩:=id z;refine gV (gV (abx a b rfl (gV (abx a b rfl (gV (abx a b rfl (ZM ?_)))))));refine gV (slicePart_none ?_);refine gV (vg pl (gV (vg I (gV (ZM ?_)))));show wpAny _ _ (match Builtin.Slice.sliceAdjust lo hi 1 n with | (lo,hi)=>pure (lo,(1:Int),Builtin.Slice.slicePlaces lo hi 1)) _ _ s;rw[Dz lo hi n];show wpAny _ _ (pure (((aY n 0 lo):Int),1,Builtin.Slice.slicePlaces ((aY n 0 lo:Nat)) ((aY n n hi:Nat)) 1)) _ _ s;rw[DA];exact ZM h
def IB(xs:Array Value)(i k:Nat):((List.range k).filterMap λ(m:Nat)=>xs[((i:Int)+(m:Int)*1).toNat]?).toArray=((xs.toList.drop i).take k).toArray:=by
 have e:(λ(m:Nat)=>xs[(i+(m:Int)*1).toNat]?)=λm=>xs[i+m]?:=by
  funext m
  have:(i+(m:Int)*1).toNat=i+m:=by lia
  rw[this]
 rw[e];have:=pick_run xs i k;rw[List.filterMap_map]at this;have a:((λx=>xs[x]?) ∘ λx=>i+x)=λm=>xs[i+m]?:=rfl;rw[a]at this;rw[this]
def t6{lo hi:Option Int}(z:IsTup s.heap t items)(I:s.heap.IsSliceOf sl vl vu .none)(pl:IsPart vl lo)(Z:IsPart vu hi)(hw:¬ (aY items.size 0 lo=0/\aY items.size items.size hi=items.size))(h:Q (.ref s.heap.objs.size) { s with heap:=s.heap.push { cls:=.type "tuple",data:=.seq ((items.toList.drop (aY items.size 0 lo)).take (aY items.size items.size hi - aY items.size 0 lo)).toArray }})(hsz:items.size<=sizeLine):wpAny (model prog w) A (getItem (.ref t) (.ref sl)) Q E s:=by
 have a:sizeOk (.seq ((items.toList.drop (aY items.size 0 lo)).take (aY items.size items.size hi - aY items.size 0 lo)).toArray):=by
  show((items.toList.drop (aY items.size 0 lo)).take (aY items.size items.size hi - aY items.size 0 lo)).toArray.size<=sizeLine;rw[aaz,abk,acF,ab6];lia
 obtain⟨e,b,c,f⟩:=id I;have PL:s.TypeIs (.ref sl) "slice" :=⟨e,b,c⟩
 unfold getItem;try with_reducible refine ab0 ?_
 first|refine gV (ZM ?_)|skip
 refine gV (wpAny_sequenceKey z.typeIs (by decide) ?_);refine gV (abN z.typeIs abt
  (abK abt z.typeIs entry_tuple_getitem ?_ (args_tuple_getitem _ _)))
 show wpAny _ _ (Builtin.Tuple.tupleItemsOf (.ref t) >>= _) _ _ s;refine gV (tupleItemsOf_ z ?_);refine gV (ac3 PL ?_);refine gV (m5 I pl Z ?_);have d:¬ ((((aY items.size 0 lo):Int)==0&&(1:Int)==1&&(aY items.size items.size hi - aY items.size 0 lo)==items.size)=true):=by
  intro q;rw[Bg,Bg]at q;have g:((aY items.size 0 lo:Nat):Int)=0:=eq_of_beq q.1.1;have j:aY items.size items.size hi - aY items.size 0 lo=items.size:=eq_of_beq q.2;exact hw ⟨by lia,by lia⟩
 show wpAny _ _ (if (((aY items.size 0 lo:Nat):Int)==0&&(1:Int)==1&&(aY items.size items.size hi - aY items.size 0 lo)==items.size)=true then _ else _) _ _ s;rw[aaH d,IB];first
  |exact gV (m:=Builtin.Tuple.tupleExact _) (abp (ZM ⟨_,rfl,ZM h⟩) a)
  |exact gV (m:=Builtin.Tuple.tupleExact _) (abp (gV (ZM (ZM ⟨_,rfl,ZM h⟩))) a)
  |exact gV (gV (m:=Builtin.Tuple.tupleExact _) (abp (ZM (ZM ⟨_,rfl,ZM h⟩)) a))
  |exact gV (gV (m:=Builtin.Tuple.tupleExact _) (abp (ZM ⟨_,rfl,ZM h⟩) a))
end
end HT
namespace L2
open PySem PySem.Spec PyProof.Rows
abbrev TO:=St->Hp->(Option Int->Hp->Prop)->Prop
def PO(X:Cx)(e:Option Expr)(t:TO):Prop:=
 ∀(pins:Ψ) (s:Shared) (σ:St) (H:Hp) (Q:Option Int->Hp->Prop),Inv X pins σ H s->t σ H Q->
  wpAny (model X.prog X.w) X.A (evalPart e X.env) (λu a=>∃o H',Inv X pins σ H' a/\IsPart u o/\Q o H') X.xe s
def MN:TO:=λ_ H Q=>Q none H
def U4(t:TE):TO:=λσ H Q=>t σ H λx H1=>∃i,x=.int i/\Q (some i) H1
section
variable{X:Cx}{e:Expr}{te:TE}{lo hi:Option Expr}{tl th:TO}{pos p2:Pos}
def MO:PO X none MN:=by
 intro a s σ H Q I h;exact ZM ⟨none,H,I,.none,h⟩
def MP(h:PE X e te):PO X (some e) (U4 te):=by
 intro a s σ H Q I hw;refine bx (h a s σ H _ I hw) λu s1 zr=>?_;obtain⟨x,H1,I1,b,c⟩:=zr;obtain⟨i,rfl,q⟩:=c;obtain⟨t,rfl⟩:=b;exact⟨some i,H1,I1,.int i t,q⟩
def m6(X:Cx)(r:V->Option Int->Option Int->Hp->VK->Prop):Prop:=
 ∀(pins:Ψ) (s:Shared) (σ:St) (H:Hp) (x:V) (v vl vu:Value) (lo hi:Option Int) (sl:Addr) (Q:VK),Inv X pins σ H s->RelV x v->s.heap.IsSliceOf sl vl vu .none->IsPart vl lo->IsPart vu hi->r x lo hi H Q->
  ∃T id,typeLookup (.type T) "__getitem__" = pure (some (.builtin id))/\s.TypeIs v T/\wpAny (model X.prog X.w) X.A (getItem v (.ref sl)) (EP X pins σ Q) X.xe s
def tSl(r:V->Option Int->Option Int->Hp->VK->Prop)(te:TE)(tl th:TO):TE:=λσ H Q=>te σ H λx H1=>tl σ H1 λl H2=>th σ H2 λu H3=>r x l u H3 Q
def IC(hr:m6 X r)(Z:PE X e te)(hl:PO X lo tl)(hu:PO X hi th):PE X (.Subscript e (.Slice lo hi none p2) pos) (tSl r te tl th):=by
 intro a s σ H Q I h;refine Subscript_ (bx (Z a s σ H _ I h) λv s1 ⟨x,H1,I1,f,g⟩=>?_);refine wpAny_Slice (bx (hl a s1 σ H1 _ I1 g) λc s2 ⟨l,H2,I2,j,k⟩=>bx (hu a s2 σ H2 _ I2 k) λd s3 ⟨u,H3,I3,p,y⟩=>?_);refine ZM ?_;have I4:Inv X a σ H3 { s3 with heap:=s3.heap.push { cls:=.type "slice",data:=.fields #[c,d,.none]}}:=I3.kept λb C q=>aaa _ q;obtain⟨T,id,z,A,B⟩:=hr a { s3 with heap:=s3.heap.push { cls:=.type "slice",data:=.fields #[c,d,.none]}} σ H3 x v c d l u s3.heap.objs.size Q I4 f (Heap.IsSliceOf.new ..) j p y;exact tail_any A z B (by with_unfolding_all rfl)
def wL(xs:T1)(lo hi:Option Int):T1:=(xs.drop (HT.aY xs.length 0 lo)).take (HT.aY xs.length xs.length hi - HT.aY xs.length 0 lo)
def t8(xs:T1)(lo hi:Option Int):(wL xs lo hi).length<=xs.length:=by
 unfold wL;rw[abk,acF];lia
def YW(K:Φ):V->Option Int->Option Int->Hp->VK->Prop:=λx lo hi H Q=>∃a xs,x=.ref a/\dI K H a xs/\
 ¬ (HT.aY xs.length 0 lo=0/\HT.aY xs.length xs.length hi=xs.length)/\∀p,H p=none->Q (.ref p) (upd H p (.tup (wL xs lo hi)))
def PM:m6 X (YW X.K):=by
 intro f s σ H x v vl vu lo hi sl Q I rx hs pl pu h;obtain⟨a,xs,rfl,j,k,q⟩:=h;cases rx;obtain⟨d,r,g,hz⟩:=I.tuple j;have c:d.toArray.size=xs.length:=by exact r.length.symm
 refine⟨"tuple",_,PyProof.Rows.slot_tuple_getitem.lookup,g.typeIs,?_⟩;refine HT.t6 g hs pl pu (by rw[c];exact k) ?_ (by rw[c];exact hz);rw[c];refine⟨.ref s.heap.objs.size,_,I.laid (λb p q=>aaa _ q) (aaB _) ?_,rfl,q _ (I.hok.fresh (aaB _))⟩;exact⟨aaN (t8 xs lo hi) hz,_,(r.drop (HT.aY xs.length 0 lo)).take (HT.aY xs.length xs.length hi - HT.aY xs.length 0 lo),IsTup.new _ _⟩
def U5(K:Φ):R2:=λx y H Q=>∃a b xs ys,x=.ref a/\y=.ref b/\dI K H a xs/\dI K H b ys/\xs≠[]/\xs.length+ys.length<=sizeLine/\
 (ys=[]->Q (.ref a) H)/\(ys≠[]->∀p,H p=none->Q (.ref p) (upd H p (.tup (xs++ys))))
def Vals.wN(r:Vals xs us):us=[]↔xs=[]:=by
 cases r with
 |nil=>simp
 |cons _ _=>simp
def MQ:dY X (binaryOp .Add) (U5 X.K):=by
 intro f s σ H x y v u Q I rx ry h;obtain⟨a,b,xs,F,rfl,rfl,j,k,p,hz,r,A⟩:=h;cases rx;cases ry;obtain⟨B,d,C,_⟩:=I.tuple j;obtain⟨g,c,p2,_⟩:=I.tuple k;refine HT.MM C p2 (λz=>p (d.wN.mp z)) (λz=>⟨.ref a,H,I,rfl,r (c.wN.mp z)⟩) (λz=>?_) (by rw[<-d.length,<-c.length];exact hz);refine⟨.ref s.heap.objs.size,_,I.laid (λb G q=>aaa _ q) (aaB _) ?_,rfl,A (λw=>z (c.wN.mpr w)) _ (I.hok.fresh (aaB _))⟩;exact⟨by rw[aaE];exact hz,_,d.append c,IsTup.new _ _⟩
end
def fO(n:Nat)(i:Int):Option Nat:=if 0<=i then (if i<n then some i.toNat else none)else if -(n:Int)<=i then some (i+n).toNat else none
def bz{α:Type}(xs:List α)(i:Int):Option α:=(fO xs.length i).bind λj=>xs[j]?
def MR(h:fO n i=some j):seqIndex? i n=some j/\j<n/\-(n:Int)<=i/\i<n:=by
 unfold fO at h;by_cases b:0<=i
 .rw[OL b]at h;by_cases a:i<n
  .rw[OL a]at h;have e:=abi h;exact⟨by rw[seqIndex_of b a,e],by lia,by lia,a⟩
  .rw[aaH a]at h;exists h
 .rw[aaH b]at h;by_cases a:-n<=i
  .rw[OL a]at h;have e:=abi h;exact⟨by rw[seqIndex_neg (by lia) a,e],by lia,a,by lia⟩
  .rw[aaH a]at h;exists h
def wO{α:Type}{xs:List α}{v:α}(h:bz xs i=some v):∃j,seqIndex? i xs.length=some j/\xs[j]?=some v/\j<xs.length/\-(xs.length:Int)<=i/\i<xs.length:=by
 unfold bz at h;cases e:fO xs.length i with
 |none=>rw[e]at h;exists h
 |some j=>
  rw[e]at h;obtain⟨a,b,c,d⟩:=MR e;exact⟨j,a,h,b,c,d⟩
def mP{α:Type}{xs:List α}{j:Nat}{v:α}(h:xs[j]?=some v):bz xs (j:Int)=some v:=by
 have a:j<xs.length:=(gL h).1;have e:fO xs.length (j:Int)=some j:=by
  unfold fO;rw[OL (by lia),OL (by lia)];simp
 unfold bz;rw[e];exact h
def wQ(b:Expr):Prop:=∀o i,subscripted b false o i=operate [o,i] (getItem o i)
def BO(X:Cx)(r:R2):Prop:=
 ∀(value slice:Expr) (pins:Ψ) (s:Shared) (σ:St) (H:Hp) (x y:V) (v u:Value) (Q:VK),Inv X pins σ H s->RelV x v->RelV y u->r x y H Q->
  subscripted slice false v u=operate [v,u] (getItem v u)->wpAny (model X.prog X.w) X.A (subscriptTail value slice v u) (EP X pins σ Q) X.xe s
def yh(X:Cx)(z:String)(r:V->List V->Hp->VK->Prop):Prop:=
 ∀(pins:Ψ) (s:Shared) (σ:St) (H:Hp) (x:V) (xs:T1) (v:Value) (us:Y2) (Q:VK),Inv X pins σ H s->RelV x v->Vals xs us->r x xs H Q->
  wpAny (model X.prog X.w) X.A (call (.builtin z) (v :: us)) (EP X pins σ Q) X.xe s
section
variable{X:Cx}{a b:Expr}{ta tb:TE}{pos:Pos}
def KP(hr:BO X r)(z:PE X a ta)(Z:PE X b tb)(hs:wQ b):PE X (.Subscript a b pos) (E2 r ta tb):=by
 intro c s σ H Q I h;exact Subscript_ (Ip z Z I h λv u s2 x y H2 I2 d e q=>hr a b c s2 σ H2 x y v u Q I2 d e q (hs _ _))
def YX(K:Φ):R2:=λx y H Q=>∃p xs i v,x=.ref p/\y=.int i/\gK K H p xs/\bz xs i=some v/\Q v H
def YY(K:Φ):R2:=λx y H Q=>∃p xs i v,x=.ref p/\y=.int i/\dI K H p xs/\bz xs i=some v/\Q v H
def YZ:R2:=λx y H Q=>∃z i c,x=.str z/\y=.int i/\z.length<=sizeLine/\bz z.cps.toList i=some c/\Q (.str ⟨#[c]⟩) H
def BP:BO X (YX X.K):=by
 intro value e c s σ H x y v u Q I rx ry h hs;obtain⟨p,xs,i,z,rfl,rfl,F,G,q⟩:=h;cases rx;obtain⟨t,rfl⟩:=ry;obtain⟨f,r,g,hz⟩:=I.list F;obtain⟨j,d,J,P,L,M⟩:=wO G;obtain⟨w,B,k⟩:=r.get J;have N:=r.length;have W:=qX;have fin:EP X c σ Q w s:=⟨z,H,I,k,q⟩
 by_cases C:0<=i
 .have A:i.toNat=j:=by
   rw[seqIndex_of C M]at d;exact abi d
  exact item_listR g.isList C (by lia) (by rw[A];simpa using B) fin hs
 .have A:(i+f.toArray.size).toNat=j:=by
   rw[seqIndex_neg (by lia) L]at d;rw[aaz,<-N];exact abi d
  exact subscriptTail_builtinR g.isList.typeIs slot_list_getitem.lookup
   (wpAny_getItem_list_neg g.isList (by lia) (by rw[aaz]<;>lia) (by lia) (by rw[A];simpa using B) ⟨rfl,fin⟩) hs
def PN:BO X (YY X.K):=by
 intro value d c s σ H x y v u Q I rx ry h hs;obtain⟨p,xs,i,z,rfl,rfl,g,k,q⟩:=h;cases rx;obtain⟨t,rfl⟩:=ry;obtain⟨A,r,f,hz⟩:=I.tuple g;obtain⟨j,B,C,J,L,M⟩:=wO k;obtain⟨w,F,e⟩:=r.get C;have G:=r.length;have N:=qX;have fin:EP X c σ Q w s:=⟨z,H,I,e,q⟩
 exact subscriptTail_builtinR f.typeIs slot_tuple_getitem.lookup
  (getItem_tuple f (by lia) (by lia) (by rw[aaz,<-G];exact B) (by simpa using F) ⟨rfl,fin⟩) hs
def PR:BO X YZ:=by
 intro value d e s σ H x y v u Q I rx ry h hs;obtain⟨z,i,c,rfl,rfl,hz,g,q⟩:=h;obtain⟨t,rfl⟩:=rx;obtain⟨F,rfl⟩:=ry;obtain⟨j,f,k,G,p,r⟩:=wO g;have A:z.cps.toList.length=z.length:=by simp[Str.length]
 rw[A]at f p r;have J:=qX;exact tail_any (typeIs_str s z t) slot_str_getitem.lookup (getItem_str (by
  have B:decide (i < -(2 ^ 63))=false:=aaR (by lia);have C:decide (i≥2 ^ 63)=false:=aaR (by lia);rw[B,C,Bool.or_false]) (by rw[f];simpa using k) ⟨.str ⟨#[c]⟩,H,I.tok _,⟨_,rfl⟩,q⟩) hs
def zJ(lo hi:Option Int)(n:Nat):(sliceBounds lo hi none n).1=((HT.aY n 0 lo:Nat):Int)/\(sliceBounds lo hi none n).2.1=((HT.aY n n hi:Nat):Int)/\(sliceBounds lo hi none n).2.2=1:=by
 refine⟨?_,?_,rfl⟩
 .cases lo with
  |none=>simp[sliceBounds,HT.aY]
  |some i=>
   simp only[sliceBounds,HT.aY,Option.getD_none,show(1:Int) > 0 by decide,aa0];by_cases h:i<0
   .simp only[h,aa0]<;>lia
   .simp only[h,acE]<;>lia
 .cases hi with
  |none=>simp[sliceBounds,HT.aY]
  |some i=>
   simp only[sliceBounds,HT.aY,Option.getD_none,show(1:Int) > 0 by decide,aa0];by_cases h:i<0
   .simp only[h,aa0]<;>lia
   .simp only[h,acE]<;>lia
def yZ(z:Y2)(lo hi:Option Int):slicePick z.toArray lo hi none=((z.drop (HT.aY z.length 0 lo)).take (HT.aY z.length z.length hi - HT.aY z.length 0 lo)).toArray:=by
 obtain⟨c,d,e⟩:=zJ lo hi z.toArray.size;unfold slicePick;rw[c,d,e];simp only[sliceRange_one,pick_run,aaz]<;>rfl
def Y0(K:Φ):V->Option Int->Option Int->Hp->VK->Prop:=λx c d H Q=>∃a xs,x=.ref a/\gK K H a xs/\∀p,H p=none->Q (.ref p) (upd H p (.lst (wL xs c d)))
def MS:m6 X (Y0 X.K):=by
 intro d s σ H x v vl vu lo hi sl Q I rx hs pl pu h;obtain⟨a,xs,rfl,f,q⟩:=h;cases rx;obtain⟨g,r,e,hz⟩:=I.list f;have c:=r.length;refine⟨"list",_,slot_list_getitem.lookup,e.isList.typeIs,?_⟩;refine wpAny_getItem_list_slice e.isList hs pl pu .none (by simp) ?_ (by rw[aaz]<;>lia);rw[yZ,<-c];refine⟨.ref s.heap.objs.size,_,I.laid (λb j q=>aaa _ q) (aaB _) ?_,rfl,q _ (I.hok.fresh (aaB _))⟩;exact⟨aaN (t8 xs lo hi) hz,_,0,(r.drop (HT.aY xs.length 0 lo)).take (HT.aY xs.length xs.length hi - HT.aY xs.length 0 lo),aaQ _ rfl⟩
def ze:V->Bool
 |.aN=>true
 |.bl _=>true
 |.int _=>true
 |.str _=>true
 |_=>false
def m7:gG X (.builtin "len") (λxs H Q=>∃p z,xs=[.ref p]/\(gK X.K H p z\/dI X.K H p z)/\Q (.int z.length) H):=by
 intro j s σ H xs us Q I r h;obtain⟨p,z,rfl,d,q⟩:=h;obtain⟨u,rfl,k⟩:=vals1 r;cases k;have x:=qX;rcases d with d|d
 .obtain⟨e,f,g,hz⟩:=I.list d;have c:=f.length;exact Calls.call_len_list g.isList (by simp only[aaz]<;>lia) ⟨.int z.length,H,I.tok _,⟨s.toks+1,by rw[aaz,c]⟩,q⟩
 .obtain⟨e,f,g,hz⟩:=I.tuple d;have c:=f.length;exact len_tuple g (by simp only[aaz]<;>lia) ⟨.int z.length,H,I.tok _,⟨s.toks+1,by rw[aaz,c]⟩,q⟩
def zK:gG X (.builtin "len") (λxs H Q=>∃z,xs=[.str z]/\z.length<=sizeLine/\Q (.int z.length) H):=by
 intro c s σ H xs us Q I r h;obtain⟨z,rfl,hz,q⟩:=h;obtain⟨u,rfl,t,rfl⟩:=vals1 r;have d:=qX;exact abI (by lia) ⟨.int z.length,H,I.tok _,⟨_,rfl⟩,q⟩
def qZ:gG X (.type "list") (λxs H Q=>∃p Z,xs=[.ref p]/\(gK X.K H p Z\/dI X.K H p Z)/\∀l,H l=none->Q (.ref l) (upd H l (.lst Z))):=by
 intro j s σ H xs us Q I r h;obtain⟨p,Z,rfl,k,q⟩:=h;obtain⟨u,rfl,C⟩:=vals1 r;cases C;have fin:∀(c:Y2),Vals Z c->Z.length<=sizeLine->∀(d:Heap) (f:Nat),(∀b o',s.heap.get? b=some o'->d.get? b=some o')->
   d.get? s.heap.objs.size=some { cls:=.type "list",dict:=none,data:=.seq c.toArray f,slots:=#[]}->EP X j σ Q (.ref s.heap.objs.size) { s with heap:=d }:=λc g hz d f kp e=>
  ⟨.ref s.heap.objs.size,_,I.laid kp (aaB _) (show gF X.prog X.w _ d _ (.lst Z)from ⟨hz,c,f,g,e⟩),rfl,q _ (I.hok.fresh (aaB _))⟩
 rcases k with k|k
 .obtain⟨c,g,y,hz⟩:=I.list k;have x:=g.length;obtain⟨o,z,A,n,B⟩:=y.isList;exact call_list_seq p (.inl rfl) z A B (λd f kp e=>fin c g hz d f kp e) (by simp only[aaz]<;>lia)
 .obtain⟨c,g,y,hz⟩:=I.tuple k;have x:=g.length;obtain⟨o,z,A,n,B⟩:=y;exact call_list_seq p (.inr rfl) z A B (λd f kp e=>fin c g hz d f kp e) (by simp only[aaz]<;>lia)
def qF:gG X (.type "tuple") (λxs H Q=>∃p z,xs=[.ref p]/\((gK X.K H p z/\∀l,H l=none->Q (.ref l) (upd H l (.tup z)))\/(dI X.K H p z/\Q (.ref p) H))):=by
 intro j s σ H xs us Q I r h;obtain⟨p,z,rfl,h⟩:=h;obtain⟨u,rfl,x⟩:=vals1 r;cases x;rcases h with ⟨d,q⟩|⟨d,q⟩
 .obtain⟨c,f,g,hz⟩:=I.list d;have k:=f.length;refine call_tuple_list g.isList (λy kp=>?_) (by simp only[aaz]<;>lia);have I1:=I.kept (t':=s.toks) kp;have I2:=
   I1.laid (t':=s.toks) (λb o e=>aaa _ e) (aaB _) (show gF X.prog X.w _ _ _ (.tup z)from ⟨hz,c,f,IsTup.new _ _⟩)
  exact⟨.ref y.objs.size,_,I2,rfl,q _ (I1.hok.fresh (aaB _))⟩
 .obtain⟨c,f,g,hz⟩:=I.tuple d;exact call_tuple_same g ⟨.ref p,H,I,rfl,q⟩
def Fe(K:Φ)(T:String)(x:V)(H:Hp):Prop:=match x with
 |.str _=>T = "str"
 |.int _=>T = "int"
 |.ref p=>(T = "list" /\∃xs,gK K H p xs)\/(T = "tuple" /\∃o,K.lookup p=some o/\o.cls=.type "tuple" /\o.dict=none)\/
   (T = "dict" /\((∃kvs,H p=some (.dK kvs))\/∃kvs,H p=some (.dT kvs)))\/(T = "set" /\∃S n,H p=some (.set S n))
 |_=>False
def Ff{pins:Ψ}{σ:St}{H:Hp}{s:Shared}{T:String}{x:V}{v:Value}(I:Inv X pins σ H s)(r:RelV x v)(ty:Fe X.K T x H):
  s.TypeIs v T/\∀a,v=.ref a->∃ob,s.heap.get? a=some ob/\ob.dict=none:=by
 cases x with
 |str z=>
  obtain⟨t,rfl⟩:=r;cases (show T = "str" from ty);exact⟨typeIs_str s z t,λ_ e=>nomatch e⟩
 |int i=>
  obtain⟨t,rfl⟩:=r;cases (show T = "int" from ty);exact⟨acZ s i t,λ_ e=>nomatch e⟩
 |ref p=>
  cases r;rcases ty with ⟨rfl,xs,k⟩|⟨rfl,o,d,q,f⟩|⟨rfl,d⟩|⟨rfl,S,n,d⟩
  .obtain⟨y,_,j,_⟩:=I.list k;refine⟨j.isList.typeIs,λa e=>?_⟩
   exists e
   obtain⟨o,n,e,c,f,_⟩:=j;exact⟨o,e,f⟩
  .refine⟨⟨o,I.iu p o d,q⟩,λa e=>?_⟩
   exists e
   exact⟨o,I.iu _ o d,f⟩
  .have z:∃o,s.heap.get? p=some o/\o.ExactDict:=by
    rcases d with ⟨g,d⟩|⟨g,d⟩
    .obtain⟨_,_,_,_,o,_,_,e,ex,_⟩:=I.hok p _ d;exact⟨o,e,ex⟩
    .obtain⟨_,_,_,_,o,_,_,e,ex,_⟩:=I.hok p _ d;exact⟨o,e,ex⟩
   obtain⟨o,e,ex⟩:=z;refine⟨⟨o,e,ex.1⟩,λa h=>?_⟩
   exists h
   exact⟨o,e,ex.2.1⟩
  .obtain⟨o,_,_,_,e,ex,_⟩:=I.hok p _ d;refine⟨⟨o,e,ex.1⟩,λa h=>?_⟩
   exists h
   exact⟨o,e,ex.2.1⟩
 |_=>exact False.elim ty
def Y3(K:Φ)(T:String)(r:V->List V->Hp->VK->Prop)(z:TE):TE:=λσ H Q=>z σ H λx H1=>Fe K T x H1/\r x [] H1 Q
def tBM(K:Φ)(T:String)(r:V->List V->Hp->VK->Prop)(z:TE)(t:TA):TE:=λσ H Q=>z σ H λx H1=>Fe K T x H1/\t σ H1 λxs H2=>r x xs H2 Q
variable{o e:Expr}{es:Kx}{to:TE}{t:TA}{name:Str}{apos cpos:Pos}{T id:String}{r:V->List V->Hp->VK->Prop}
def Fi(pa:PlainAttrs T)(slot:Slot T name id)(hty:typeOf (.builtin id)=pure (.type "method_descriptor"))(hm:yh X id r)(ho:PE X o to)(z:q3 o name X.env:=by rfl)(Z:(apos.endLine==cpos.line)=true:=by rfl):PE X (.Call (.Attribute o name apos) [] [] cpos) (Y3 X.K T r to):=by
 intro c s σ H Q I h;refine wpAny_Call_method0_late z Z (bx (ho c s σ H _ I h) λv s1 zr=>?_);obtain⟨x,H1,I1,d,f,g⟩:=zr;obtain⟨j,k⟩:=Ff I1 d f;exact⟨T,id,pa,slot,hty,j,k,Calls.callWith_builtin rfl (PySem.evalArgs_none (hm c s1 σ H1 x [] v [] Q I1 d .nil g))⟩
def DB(pa:PlainAttrs T)(slot:Slot T name id)(hty:typeOf (.builtin id)=pure (.type "method_descriptor"))(hm:yh X id r)(ho:PE X o to)(ha:PA X (e :: es) t)(hbase:q3 o name X.env:=by rfl)(hfew:((backTo cpos (starEach (e :: es) X.env)).all (λx=>!x.1)&&(backToKw cpos (keywordEach [] X.env)).all (λx=>x.1.isSome)
   &&decide ((e :: es).length+([]:List Keyword).length+(if ([]:List Keyword).isEmpty then 0 else 1)<30))=true:=by rfl)(hline:(apos.endLine==cpos.line)=true:=by rfl)(hs:qN e es X.env:=by rfl)(Z:qW cpos es X.env:=by rfl):
  PE X (.Call (.Attribute o name apos) (e :: es) [] cpos) (tBM X.K T r to t):=by
 intro c s σ H Q I h;refine acz hbase hfew hline rfl (bx (ho c s σ H _ I h) λv s1 zr=>?_);obtain⟨x,H1,I1,d,g,j⟩:=zr;obtain⟨k,p⟩:=Ff I1 d g;refine⟨T,id,pa,slot,hty,k,p,?_⟩;have f:=ha cpos c s1 σ H1 _ I1 j;rw[hs]at f ⊢;refine Calls.callWith_builtin (by show(false || (backTo cpos (starEach es X.env)).any (·.1))=false;rw[Z]<;>rfl) (Calls.evalArgs_plain ?_);exact bx f λq s2 ⟨y,H2,I2,z,A⟩=>hm c s2 σ H2 x y v q Q I2 d z A
end
def PU(X:Cx)(z:String)(r:V->List V->Hp->VK->Prop):Prop:=
 ∀(pins:Ψ) (s:Shared) (σ:St) (H:Hp) (x:V) (xs:T1) (v:Value) (us:Y2) (Q:VK),Inv X pins σ H s->RelV x v->Vals xs us->r x xs H Q->
  wpAny (model X.prog X.w) X.A (call (.builtin z) (v :: us)) (EP X pins σ Q) X.xe s
def Vals.one:∀{x:V}{us:Y2},Vals [x] us->∃u,us=[u]/\RelV x u
 |_,_,.cons r .nil=>⟨_,rfl,r⟩
def Vals.zero:∀{us:Y2},Vals [] us->us=[]
 |_,.nil=>rfl
theorem Vals.dropLast(h:Vals xs us):Vals xs.dropLast us.dropLast:=by
 induction h with
 |nil=>exact .nil
 |cons r t a=>
  cases t with
  |nil=>exact .nil
  |cons q b=>exact .cons r a
theorem Vals.reverse{xs:T1}{us:Y2}(h:Vals xs us):Vals xs.reverse us.reverse:=by
 induction h with
 |nil=>exact .nil
 |cons r t a=>rw[aaT,aaT];exact Vals.append a (.cons r .nil)
theorem Vals.rep(h:Vals xs us):∀k:Nat,Vals (List.replicate k xs).flatten (List.replicate k us).flatten
 |0=>.nil
 |k+1=>by
  exact Vals.append h (Vals.rep h k)
def DC{α:Type}(l:List α):l.eraseIdx (l.length - 1)=l.dropLast:=by
 induction l with
 |nil=>rfl
 |cons a r c=>
  cases r with
  |nil=>rfl
  |cons b r=>
   have e:(a :: b :: r).length - 1=((b :: r).length - 1)+1:=by
    have d:(a :: b :: r).length=r.length+2:=rfl;have f:(b :: r).length=r.length+1:=rfl;lia
   rw[e,List.eraseIdx_cons_succ,c];all_goals rfl
theorem foldl_rep(z:Y2):∀(k:Nat) (I:Y2),
  List.foldl (λx1 x2=>x1++x2) I.toArray (List.replicate k z.toArray)=(I++(List.replicate k z).flatten).toArray
 |0,I=>by simp
 |k+1,I=>by
  have e:I.toArray++z.toArray=(I++z).toArray:=by simp
  have a:(I++z)++(List.replicate k z).flatten=I++(List.replicate (k+1) z).flatten:=by
   rw[aaK,acX,aaX]
  rw[<-a,<-foldl_rep z k (I++z),<-e,aaK,aba]
section
variable{X:Cx}{pins:Ψ}{σ:St}{H:Hp}{s:Shared}{l:Addr}{xs ys:T1}
def Inv.ID{z its':Y2}(I:Inv X pins σ H s)(Z:H l=some (.lst xs))(e:s.heap.get? l=some { cls:=.type "list",data:=.seq z.toArray n })(hf:f z.toArray=its'.toArray)(hv:Vals ys its')(hz:ys.length<=sizeLine):
  Inv X pins σ (upd H l (.lst ys)) { s with heap:=s.heap.update l (Obj.mapSeq f),toks:=t' }:=by
 have q:=PySem.IsL.update e f;rw[hf]at q;refine I.write (by rw[Z];exact trivial) (.inl rfl) (λc u a b=>(abR s.heap (Obj.mapSeq f) (abJ a)).trans b) ⟨_,q⟩ ?_;exact⟨hz,its',_,hv,q⟩
def Inv.IE(I:Inv X pins σ H s)(z:Vals ys its)(hz:ys.length<=sizeLine):
  Inv X pins σ (upd H s.heap.objs.size (.lst ys)) { s with heap:=s.heap.push { cls:=.type "list",data:=.seq its.toArray },toks:=t' }:=
 I.laid (λ_ _ q=>aaa _ q) (aaB _) ⟨hz,its,0,z,aaQ _ rfl⟩
theorem Inv.fresh(I:Inv X pins σ H s):H s.heap.objs.size=none:=I.hok.fresh (aaB _)
def Inv.pV(I:Inv X pins σ H s)(hH:H l=some (.lst xs)):xs.length<=sizeLine/\∃(Z:Y2) (n:Nat),Vals xs Z/\xs.length=Z.length/\s.heap.get? l=some { cls:=.type "list",data:=.seq Z.toArray n }:=by
 obtain⟨z,Z,n,r,e⟩:=I.hok l _ hH;exact⟨z,Z,n,r,r.length,e⟩
def zL(h:n<=sizeLine):Builtin.List.listTooLong n=false:=by
 exact aaR (by lia)
end
section
variable{X:Cx}
def MT:V->List V->Hp->VK->Prop:=λx a H Q=>∃l xs y,x=.ref l/\a=[y]/\H l=some (.lst xs)/\xs.length<sizeLine/\Q .aN (upd H l (.lst (xs++[y])))
def nU:PU X "list.append" MT:=by
 intro b s σ H x vs v us Q I rx rv h;obtain⟨l,xs,y,rfl,rfl,c,hz,q⟩:=h;cases rx;obtain⟨u,rfl,d⟩:=rv.one;obtain⟨z,a,n,r,f,e⟩:=I.pV c;refine abO F.slot_list_append ⟨_,e,rfl⟩ F.entry_list_append (F.args_list_append_2 _ _) (PySem.list_append l a.toArray n u (by rw[aaz];lia)) ⟨e,?_⟩;refine⟨.aN,_,I.ID c e (by simp) (r.append (.cons d .nil)) ?_,rfl,q⟩;rw[aaE,abe];lia
def MU:V->List V->Hp->VK->Prop:=λx a H Q=>∃l b xs zs,x=.ref l/\a=[.ref b]/\H l=some (.lst xs)/\H b=some (.lst zs)/\xs.length+zs.length<=sizeLine/\Q .aN (upd H l (.lst (xs++zs)))
def Fj:PU X "list.extend" MU:=by
 intro f s σ H x vs v us Q I rx rv h;obtain⟨l,b,xs,B,rfl,rfl,g,j,hz,q⟩:=h;cases rx;obtain⟨u,rfl,k⟩:=rv.one;cases k;obtain⟨z,c,n,r,C,e⟩:=I.pV g;obtain⟨G,a,n2,p,y,A⟩:=I.pV j;have d:c.toArray.size+a.toArray.size<=sizeLine:=by rw[aaz,aaz];lia
 have DE:¬ (!c.toArray.isEmpty&&Builtin.List.listTooLong (c.toArray.size+a.toArray.size))=true:=by
  rw[zL d,Bool.and_false];exact aa5
 refine abO F.slot_list_extend ⟨_,e,rfl⟩ F.entry_list_extend (F.args_list_extend_2 _ _)
  (AutoSeq1.list_extend_list_list_0 l c.toArray n b a.toArray n2 DE (by lia) (by lia)) ⟨e,A,?_⟩
 refine⟨.aN,_,I.ID g e (by simp) (r.append p) ?_,rfl,q⟩;rw[aaE];lia
def Y4:V->List V->Hp->VK->Prop:=λx a H Q=>∃l xs y,x=.ref l/\a=[]/\H l=some (.lst xs)/\xs[xs.length - 1]?=some y/\Q y (upd H l (.lst xs.dropLast))
def Fp:PU X "list.pop" Y4:=by
 intro d s σ H x vs v us Q I rx rv h;obtain⟨l,xs,y,rfl,rfl,f,g,q⟩:=h;cases rx;have b:=rv.zero;subst b;obtain⟨z,a,n,r,j,e⟩:=I.pV f;obtain⟨u,k,p⟩:=r.get g;have c:a.toArray[a.toArray.size - 1]?=some u:=by
  show a.toArray[a.length - 1]?=some u;rw[<-Array.getElem?_toList,<-j];exact k
 refine abO F.slot_list_pop ⟨_,e,rfl⟩ F.entry_list_pop (F.args_list_pop_1 _) (MeetsSeq.list_pop_last l a.toArray n u c (by rw[aaz];lia)) ⟨e,?_⟩;refine⟨y,_,I.ID (its':=a.dropLast) f e ?_ r.dropLast ?_,p,q⟩
 .show a.toArray.eraseIdxIfInBounds (a.toArray.size - 1)=a.dropLast.toArray;rw[aaz,List.eraseIdxIfInBounds_toArray,DC]
 .rw[List.length_dropLast];lia
def Y5:R2:=λx y H Q=>∃l b xs zs,x=.ref l/\y=.ref b/\H l=some (.lst xs)/\H b=some (.lst zs)/\xs.length+zs.length<=sizeLine/\∀p,H p=none->Q (.ref p) (upd H p (.lst (xs++zs)))
def PV:dY X (binaryOp .Add) Y5:=by
 intro d s σ H x y v u Q I rx ry h;obtain⟨l,b,xs,B,rfl,rfl,f,g,hz,q⟩:=h;cases rx;cases ry;obtain⟨z,c,n,r,C,e⟩:=I.pV f;obtain⟨F,a,n2,j,k,p⟩:=I.pV g;refine PySem.P.add_list e p ?_ (by rw[aaz,aaz];lia);have A:c.toArray++a.toArray=(c++a).toArray:=by simp
 rw[A];exact⟨.ref _,_,I.IE (r.append j) (by rw[aaE];lia),rfl,q _ I.fresh⟩
def Y6:R2:=λx y H Q=>∃l k xs,x=.ref l/\y=.int k/\H l=some (.lst xs)/\-(2 ^ 63)<=k/\k<2 ^ 63/\xs.length*k.toNat<=sizeLine/\
 ∀p,H p=none->Q (.ref p) (upd H p (.lst (List.replicate k.toNat xs).flatten))
def len_rep{α:Type}(xs:List α)(k:Nat):(List.replicate k xs).flatten.length=k*xs.length:=by
 induction k with
 |zero=>simp
 |succ k a=>rw[aaK,acX,aaE,a,Nat.succ_mul,abU]
def PX:dY X (binaryOp .Mult) Y6:=by
 intro A s σ H x y v u Q I rx ry h;obtain⟨l,k,xs,rfl,rfl,B,C,G,hz,q⟩:=h;cases rx;obtain⟨t,rfl⟩:=ry;obtain⟨z,b,n,r,J,e⟩:=I.pV B;have c:b.toArray.size*k.toNat<=sizeLine:=by rw[aaz,<-J];exact hz
 have d:¬ b.toArray.size*k.toNat > (2 ^ 63 - 1) / 8:=by
  have:(sizeLine:Nat)<=(2 ^ 63 - 1) / 8:=by decide
  lia
 have f:¬ (!Builtin.List.listFitsIndex k)=true:=by
  rw[fitsIndex_both C G];exact aa5
 have DE:¬ Builtin.List.listTooLong (b.toArray.size*k.toNat)=true:=by
  rw[zL c];exact aa5
 have g:List.foldl (λj p=>j++p) #[] (List.replicate (if b.toArray.isEmpty=true then 0 else k.toNat) b.toArray)=(List.replicate k.toNat b).flatten.toArray:=by
  have f0:∀m:Nat,List.foldl (λj p=>j++p) #[] (List.replicate m b.toArray)=(List.replicate m b).flatten.toArray:=λm=>by
   have:=foldl_rep b m [];rw[List.nil_append]at this;exact this
  rw[f0];cases b with
  |nil=>simp
  |cons a L=>rw[aaH (by simp)]
 refine ac0 (T:="list") (U:="int") (by decide) ⟨_,e,rfl⟩ (λK=>acZ K k t) noFill_list_mul F.fills_int_mul F.slot_int_rmul repeat_list F.slot_int_index.lookup
  (abO F.slot_int_rmul (acZ s k t) F.entry_int_rmul (F.args_int_rmul_2 _ _) (int___rmul___int_list k t l b.toArray n)
   ⟨e,rfl,⟨_,e,rfl⟩,abO F.slot_list_mul ⟨_,e,rfl⟩ F.entry_list_mul (F.args_list_mul_2 _ _) (AutoListH.list___mul___list_int_3 l b.toArray n k t f d DE) ⟨e,?_⟩⟩)
 rw[g];exact⟨.ref _,_,I.IE (t':=s.toks) (r.rep k.toNat) (by rw[len_rep,Nat.mul_comm];exact hz),rfl,q _ I.fresh⟩
end
end L2
namespace Wf
open PySem PySem.W PySem.Calls PyProof.Rows
def vh:∀(ns:Q1) (vs:Y2),WellAll P h vs (ns.map WData.int)->IntsAre vs ns:=by
 intro ns;induction ns with
 |nil=>
  intro vs w;cases w;exact .nil
 |cons n ns c=>
  intro vs w;cases w with
  |cons a b=>
   cases a;exact .cons _ _ (c _ b)
def Fq{l:OpenLaw}(hn:l.most=some n)(I:l.row.toRowW.claim.pre args=true)(Z:WellAll P h vals args):
  ∃a vs ns,vals=[Value.ref a]/\args=[WData.list (ns.map WData.int)]/\h.get? a=some { cls:=.type "list",data:=.seq vs.toArray }/\IntsAre vs ns/\ns.length<=n:=by
 have f:=(pre_splitW I).1;have j:=(pre_splitW I).2;obtain⟨d,r,rfl,k,p⟩:=hasAllW_cons f;obtain rfl:=hasAllW_nil p;obtain⟨xs,rfl,x⟩:=hasW_list k;obtain⟨ns,rfl⟩:=items_int x;have b:ns.length<=n:=by
  have e:(WTm.not (.lt (.lit (.int n)) (.len (.arg 0)))).holds [] { args:=[.list (ns.map .int)]}=true:=by
   have e:=(holds_andW j).1;rw[hn]at e;exact e
  have g:=condW_of e (w_not (w_lt w_lit (w_len_list (w_arg rfl))));refine Nat.le_of_not_lt λq=>?_;first
   | (exact absurd g (by decide))
   | (simp at g;lia)
 cases Z with
 |cons y z=>
  cases z;cases y with
  |list A c=>exact⟨_,_,ns,rfl,rfl,A,vh ns _ c,b⟩
def Ft(l:OpenLaw)(args:List WData):l.row.toRowW.claim.post args (.bool true) args=true:=
 postW_of
  (show WShape.has [] (.bool true) .bool=true by first|rfl|decide|simp[WShape.has,WShape.arms,WShape.armsAll])
  (show(WTm.eq .res (.lit (.bool true))).value [] { args:=args,res:=some (.bool true),after:=args }=some (.bool (true==true))from w_eq_bool (w_res rfl) w_lit) rfl
def Bx{l:OpenLaw}(hn:l.most=some n)(hdf:d.params.defaults=[])(call:∀(w:World) (s₀ Z:Shared) (mg mb:W1) (fa:Addr) (o:Obj) (pm cd doc:Value) (a:Addr) (vs:Y2) (ns:Q1),
   Ground q loose [] XP w s₀ mg mb Z.heap->YP w Z.heap->
   Z.heap.get? fa=some o->o.data=.func (docDef d.name d.params d.body d.scope pm cd doc)->Z.heap.CodeRec cd d.name->mg d.name=some (.ref fa)->
   Z.heap.get? a=some { cls:=.type "list",data:=.seq vs.toArray }->IntsAre vs ns->ns.length<=n->Z.gens = #[]->
   codeAny (model l.prog w) callerA (.call (.ref fa) ⟨[.ref a],[]⟩) (λr s'=>r=.ok (.ret (.bool true))/\OldK Z.heap s'.heap/\s'.os=Z.os/\AllBare s'.gens) Z):
  WalkO q loose XP YP l.row.toRowW d [] (λf vs=>PySem.call f vs):=by
 intro w s₀ Z mg mb G Y fa o pm cd doc z kV A B h p j C args x N c y F k H;obtain rfl:z=.none:=Dflts.none p hdf;obtain rfl:kV=.none:=Dflts.noKw p;obtain⟨a,vs,ns,rfl,rfl,e,b,g⟩:=Fq hn c k;refine enter_call (abT (call w s₀ Z mg mb fa o pm cd doc a vs ns G Y A (fd_plain B) h j e b g C) λr s' I=>?_);obtain⟨rfl,J,K,L⟩:=I;exact⟨.inl ⟨.bool true,.bool true,[],rfl,λ_=>rfl,.bool true,Ft l _,λ_=>⟨List.Pairwise.nil,λ_ M=>(nomatch M)⟩⟩,J,K,L⟩
end Wf
namespace L2
open PySem PySem.Spec PyProof.Rows
theorem yi:∀{vs:Y2}{ns:Q1},IntsAre vs ns->Vals (ns.map V.int) vs
 |_,_,.nil=>.nil
 |_,_,.cons n t h=>.cons ⟨t,rfl⟩ (yi h)
def wR(H:Hp):Prop:=∀b,H b=none\/∃o xs,H b=some (.bY o (.lst xs))
def IF{P:Program}{w:World}{K:Φ}{mg mb:W1}{CX:o5}{k:Nat}{fa a:Addr}{fd:FuncData}{x:Str}{sp:Sp}{Z:Shared}{vs:Y2}{ns:Q1}(KX:K.In Z.heap)(hns:Z.heap.Ns mainGlobals mg)(hb:Z.heap.Ns builtinsNs mb)(PY:∀x:Str,x≠"__name__" ->mb x=bootBuiltins x)(hlim:Z.heap.NoLimit)(hg:Z.gens = #[])(ha:Z.heap.get? a=some { cls:=.type "list",data:=.seq vs.toArray })(hi:IntsAre vs ns)(hl:ns.length<=sizeLine)(hr:fJ k callerA)(F:∀base:Heap,K.In base->base.Ns mainGlobals mg->eT P w K mg base CX k fa fd [x] sp)(hbind:∀(s:Shared) (u:Value),BindsTo s fd ⟨[u],[]⟩ [(x,u)])(kg:∀H:Hp,wR H->gK K H a (ns.map V.int)->sp [.ref a] H (λv _=>v=.bl true) λ_ _ _=>False)(Fv:∀H e s',CX [] H Z (λ_ _ _=>False) e s'->False):
  codeAny (model P w) callerA (.call (.ref fa) ⟨[.ref a],[]⟩) (λr s'=>r=.ok (.ret (.bool true))/\OldK Z.heap s'.heap/\s'.os=Z.os/\AllBare s'.gens) Z:=by
 have rv:=yi hi;have Y7:=hi.length;have c:∀H:Hp,wR H->gK K H a (ns.map V.int)->gA P w H Z.heap->(∀b,H b≠none->b=a)->(H a≠none->K.lookup a=none)->
   codeAny (model P w) callerA (.call (.ref fa) ⟨[.ref a],[]⟩) (λr s'=>r=.ok (.ret (.bool true))/\OldK Z.heap s'.heap/\s'.os=Z.os/\AllBare s'.gens) Z:=by
  intro H y C f A G;have BQ:∀{b:Addr} {o:Obj},Z.heap.get? b=some o->H b=none->(pR Z.heap H).get? b=some o:=λe n=>Ig e n;have Fc:∀{b:Addr} {o:Obj} {es:Array DictEntry} {ep:Nat},Z.heap.get? b=some o->o.data=.dict es ep->H b=none:=λ{b o es ep} e d=>by
   cases q:H b with
   |none=>rfl
   |some u=>
    have p:b=a:=A b (by rw[q];simp);subst p;rw[ha]at e;exists e;have I:Data.seq vs.toArray _=Data.dict es ep:=d
    exists I
  have KQ:∀{b:Addr} {m:W1},Z.heap.Ns b m->(pR Z.heap H).Ns b m:=λ{b m} ⟨o,es,ep,e,d,r⟩=>⟨o,es,ep,BQ e (Fc e d),d,r⟩
  have Wg:K.In (pR Z.heap H):=λb o e=>BQ (KX b o e) (by
   cases q:H b with
   |none=>rfl
   |some u=>
    have p:b=a:=A b (by rw[q];simp);subst p;rw[G (by rw[q];simp)]at e;exists e)
  have J:Mod K mg (pR Z.heap H):=⟨Wg,KQ hns,⟨mb,KQ hb,PY⟩,let ⟨mc,h1,h2⟩:=hlim;⟨mc,KQ h1,h2⟩⟩
  have L:pU P w K mg (pR Z.heap H) callerA [] Z H:=⟨rfl,J,λb o e=>Mw e,Nat.le_of_eq (EN _ _),trivial,λb hb=>absurd (show b∈([]:Y1)from hb) (by simp),f,.of_eq hg⟩
  refine abT ((F _ Wg (KQ hns)).run callerA [] Z H ⟨[.ref a],[]⟩ [.ref a] [.ref a] _ _ hr L (hbind Z (.ref a)) (.cons rfl .nil) (kg H y C)) λr s' h=>?_;cases r with
  |error e=>exact(Fv H e s' h).elim
  |ok fl=>
   cases fl with
   |next=>exact False.elim h
   |brk=>exact False.elim h
   |cont=>exact False.elim h
   |ret u=>
    obtain⟨v,H',os,g,un,Y8,M,q⟩:=h;have N:v=.bl true:=q;subst N;obtain rfl:u=Value.bool true:=M;refine⟨rfl,OldK.of_keep λb o e=>?_,os,g⟩;cases q:H b with
    |none=>exact un.keep b o e q (by intro z;exact absurd (show b∈([]:Y1)from z) (by simp)) (by simp)
    |some u=>
     rcases y b with z|⟨Q,xs,z⟩
     .rw[q]at z;exists z
     .have X:=un.mY b Q _ z;obtain⟨B,_⟩:=f b _ z;obtain⟨Y,_⟩:=Y8 b _ X;rw[e]at B;exists B;exact Y
 cases hk:K.lookup a with
 |some o=>
  have e:=KX a o hk;rw[ha]at e
  exists e
  refine c (λ_=>none) (λ_=>.inl rfl) (.inr ⟨_,vs.toArray,_,hk,rfl,rfl,rfl,by rw[aaz,Y7];exact hl,by simpa using rv⟩) (λb u z=>by have j:(none:Option HO)=some u:=z;exists j) (λb z=>absurd rfl z) λz=>absurd rfl z
 |none=>
  refine c (λb=>if b=a then some (.bY { cls:=.type "list",data:=.seq vs.toArray } (.lst (ns.map V.int)))else none) (λb=>?_) (.inl (.inr ⟨{ cls:=.type "list",data:=.seq vs.toArray },OL rfl⟩)) (λb u z=>?_) (λb z=>?_) λ_=>hk
  .by_cases hb:b=a
   .exact .inr ⟨_,_,OL hb⟩
   .exact .inl (aaH hb)
  .by_cases hb:b=a
   .have j:=(OL hb).symm.trans z;cases j;subst hb;exact⟨ha,by rw[aaP];exact hl,vs,_,rv,ha⟩
   .have j:=(aaH hb).symm.trans z
    exists j
  .by_cases hb:b=a
   .exact hb
   .exact absurd (aaH hb) z
def MV{l:W.OpenLaw}{n k:Nat}{q:Program}{loose:X9}{XP:W1->Heap->Prop}{YP:World->Heap->Prop}{d:DefRec}{K:Params->Φ}{CX:World->o5}{sp:World->Sp}{x:Str}(hn:l.most=some n)(hn2:n<=sizeLine)(hdf:d.params.defaults=[])(hr:fJ k callerA)(hY:∀(w:World) (h:Heap),YP w h->(K w.params).In h)(F:∀(w:World) (mg:W1) (fa:Addr) (h:Heap),(K w.params).In h->h.Ns mainGlobals mg->mg d.name=some (.ref fa)->
   ∃fd:FuncData,(∀(s:Shared) (u:Value),BindsTo s fd ⟨[u],[]⟩ [(x,u)])/\
    ∀base:Heap,(K w.params).In base->base.Ns mainGlobals mg->eT l.prog w (K w.params) mg base (CX w) k fa fd [x] (sp w))(kg:∀(w:World) (H:Hp) (a:Addr) (ns:Q1),ns.length<=n->wR H->gK (K w.params) H a (ns.map V.int)->sp w [.ref a] H (λv _=>v=.bl true) λ_ _ _=>False)(Fv:∀(w:World) (H:Hp) (s:Shared) (e:Value) (s':Shared),CX w [] H s (λ_ _ _=>False) e s'->False):
  W.WalkO q loose XP YP l.row.toRowW d [] (λf vs=>PySem.call f vs):=by
 refine Wf.Bx hn hdf λw M y mg N fa o P Q z a vs ns G Y X Z A r p j c B=>?_;have KX:=hY w _ Y;obtain⟨fd,C,I⟩:=F w mg fa _ KX G.T.g r;exact IF KX G.T.g G.T.b G.T.builtins G.T.nolimit B p j (aaN c hn2) hr I C (λH J L=>kg w H a ns c J L) λH e s'=>Fv w H y e s'
def IG{l:W.OpenLaw}{n k:Nat}{q:Program}{z:X9}{XP:W1->Heap->Prop}{YP:World->Heap->Prop}{d:DefRec}{K:Params->Φ}{CX:o5}{sp:W.Frag->Sp}{x:Str}(hn:l.most=some n)(I:n<=sizeLine)(Z:d.params.defaults=[])(hr:fJ k callerA)(hY:∀(w:World) (h:Heap),YP w h->(K w.params).In h)(F:∀(w:World) (mg:W1) (fa:Addr) (h:Heap),(K w.params).In h->h.Ns mainGlobals mg->mg d.name=some (.ref fa)->
   ∃fd:FuncData,(∀(s:Shared) (u:Value),BindsTo s fd ⟨[u],[]⟩ [(x,u)])/\
    ∀base:Heap,(K w.params).In base->base.Ns mainGlobals mg->eT l.prog w (K w.params) mg base CX k fa fd [x] (sp (K w.params)))(kg:∀(K:Φ) (H:Hp) (a:Addr) (ns:Q1),ns.length<=n->wR H->gK K H a (ns.map V.int)->sp K [.ref a] H (λv _=>v=.bl true) λ_ _ _=>False)(Fv:∀(H:Hp) (s:Shared) (e:Value) (s':Shared),CX [] H s (λ_ _ _=>False) e s'->False):
  W.WalkO q z XP YP l.row.toRowW d [] (λf vs=>PySem.call f vs):=
 MV (K:=K) (CX:=λ_=>CX) (sp:=λw=>sp (K w.params)) hn I Z hr hY F (λw H a ns b c g=>kg (K w.params) H a ns b c g) λ_ H s e s'=>Fv H s e s'
def sP(s:Stmt):Arguments:=match s with
 |.FunctionDef _ a _ _ _ _ _ _ _ _=>a
 |_=>{ posonlyargs:=[],args:=[],vararg:=none,kwonlyargs:=[],kw_defaults:=[],kwarg:=none,defaults:=[]}
def cV(s:Stmt):List Stmt:=match s with
 |.FunctionDef _ _ b _ _ _ _ _ _ _=>b
 |_=>[]
def av(s:Stmt):Scope:=match s with
 |.FunctionDef _ _ _ _ _ _ a _ _ _=>a
 |_=>{ kind:=.function,names:=[],isGenerator:=false,isCoroutine:=false }
abbrev kJ:o5:=λ_ _ _ _ _ _=>False
abbrev E0:XK:=λ_ _ _=>False
def zf:Passes kJ X E0:=λ_ _ _ _ _ _ _ h=>h.elim
structure o6(K:Φ)(x qual:Str)(st:Stmt)(f:Addr)(fd:FuncData):Prop where
 ex:∃(oc:Value) (od:Option Addr) (kV doc pm:Value) (an:Option Addr) (cdv ct:Value) (osl:Array (Option Value)),
  fd=W.fnOf x qual (sP st) (cV st) (av st) .none kV doc pm an cdv ct/\K.lookup f=some ⟨oc,od,.func fd,osl⟩/\W.codeIn K cdv qual=true
 kp:W.keepIn K (.ref f)=true
section
variable{P:Program}{w:World}{K:Φ}{mg:W1}{base:Heap}
def o6.ok{x qual:Str}{st:Stmt}{f:Addr}{fd:FuncData}{N ps:X9}{k:Nat}{sp:Sp}(F:o6 K x qual st f fd)(S:aW N ps (av st))(len:∀vs H Q E,sp vs H Q E->vs.length=ps.length)(I:∀(cdv:Value) (A:Around) (outer:List Env) (s:Shared) (H:Hp) (vs:T1) (Q:VK) (E:XK),fJ k (A.deeper (envOfC qual (av st) s.heap.objs.size f cdv))->sp vs H Q E->
   ∃t,fT (l6 kJ P w K mg base N qual (av st) f cdv A outer s H E).iV (cV st) t/\t { nx:=λ_ H'=>Q .aN H',rt:=Q } (start N vs) H):eT P w K mg base kJ (k+1) f fd ps sp:=by
 obtain⟨j,p,kV,b,r,y,cdv,z,c,rfl,d,a⟩:=F.ex;refine KO d a S len λA outer s H vs Q E e g=>?_;obtain⟨t,h,q⟩:=I cdv A outer s H vs Q E e g;exact⟨t,h.iV,q⟩
def o6.binds{st:Stmt}(F:o6 K x qual st f fd)(h:∀(kV doc pm:Value) (an:Option Addr) (cdv ct:Value) (us:Y2),us.length=ps.length->bindArgs (W.fnOf x qual (sP st) (cV st) (av st) .none kV doc pm an cdv ct) ⟨us,[]⟩=pure (ps.zip us)):Binds K fd ps []:=by
 obtain⟨c,d,kV,doc,pm,an,cdv,ct,a,rfl,e,b⟩:=F.ex;exact .all (h kV doc pm an cdv ct)
def bG{st:Stmt}{kV doc pm cdv ct:Value}(l:K.lookup f=some ⟨oc,od,.func (W.fnOf x qual (sP st) (cV st) (av st) .none kV doc pm an cdv ct),osl⟩)(c:W.codeIn K cdv qual=true)(k:W.keepIn K (.ref f)=true):o6 K x qual st f (W.fnOf x qual (sP st) (cV st) (av st) .none kV doc pm an cdv ct):=⟨⟨oc,od,kV,doc,pm,an,cdv,ct,osl,rfl,l,c⟩,k⟩
end
section
variable{X:Cx}
def pv(i:Nat){x:Str}{z:Pos}(Z:X.N[i]?=some x:=by rfl)(hv:xY X.env.scope x:=by first|exact Or.inl rfl|exact Or.inr (Or.inl rfl)|exact Or.inr (Or.inr rfl))(hd:(x==("__debug__":Str))=false:=by decide)(I:(x==("__classdict__":Str))=false:=by decide):PE X (.Name x z) (Dj i):=oZ Z hv hd I
end
end L2
namespace Ev
inductive D where
 |aN|bl (b:Bool)|int (i:Int)|str (s:Θ)|tup (ds:List D)|ref (n:Nat)
abbrev _root_.U2:=List D
structure Cl where
 cn:Θ
 nm:Γ
 nv:Nat
 nl:Nat
 deriving DecidableEq
inductive O where
 |lst (ds:U2)|bY (ds:U2)
 |obj (c:Cl) (ds:U2)|cD (n k:Nat)
abbrev Hh:=List O
abbrev Fr:=List (Option D)
inductive R(α:Type) where
 |ok (a:α) (h:Hh)
 |bad
def R.bind{α β:Type}(r:R α)(f:α->Hh->R β):R β:=
 match r with
 |.ok a h=>f a h
 |.bad=>.bad
@[simp] theorem ak{α β:Type}(a:α)(h:Hh)(f:α->Hh->R β):(R.ok a h).bind f=f a h:=rfl
@[simp] theorem II{α β:Type}(f:α->Hh->R β):(R.bad:R α).bind f=.bad:=rfl
def ah{α β:Type}{r:R α}{f:α->Hh->R β}{b:β}(e:r.bind f=.ok b h):∃a h1,r=.ok a h1/\f a h1=.ok b h:=by
 cases r with
 |ok a h1=>exact⟨a,h1,rfl,e⟩
 |bad=>exists e
def R.of{α:Type}(o:Option α)(h:Hh):R α:=match o with
 |some a=>.ok a h
 |none=>.bad
@[simp] theorem bS{α:Type}(a:α)(h:Hh):R.of (some a) h=.ok a h:=rfl
@[simp] theorem of_none{α:Type}(h:Hh):R.of (none:Option α) h=.bad:=rfl
def aH{α:Type}{o:Option α}{a:α}(e:R.of o h=.ok a h'):o=some a/\h'=h:=by
 cases o with
 |none=>exists e
 |some b=>exists e;exact⟨rfl,rfl⟩
inductive bN where
 |add|sub|mul|fdiv|mod
inductive bA where
 |eq|ne|lt|gt
 |le|ge
inductive TY where
 |int|bool|str|tuple|list
inductive BI where
 |len|sum|min
 |max
inductive ME where
 |join|append|extend|pop
inductive FU where
 |len|BR
 |t9|Wh|ix
inductive FM where
 |app
 |pop
inductive TP where
 |a (j:Nat)|t (j:Nat)|c (d:D)
inductive T where
 |one (i:Nat)|many (l:Θ)
mutual
inductive E where
 |c (d:D)|v (i:Nat)|tup (es:Es)|lst (es:Es)
 |bin (o:bN) (a b:E)|cmp (o:bA) (a b:E)
 |ch (o p:bA) (a b c:E)
 |nt (a:E)|neg (a:E)|an (a b:E)|orr (a b:E)|fV (t a b:E)
 |ix (a b:E)|sl (a:E) (lo hi:Eo)
 |cl (f:Nat) (es:Es)|bi (b:BI) (es:Es)|me (m:ME) (o:E) (es:Es)
 |comp (elt:E) (t:T) (it:It) (cond:Eo)
 |jx (it:It)
 |kh (a:E)
 |fld (c:Cl) (i k:Nat)|fu (c:Cl) (o:FU) (i k:Nat) (es:Es)|fm (c:Cl) (o:FM) (i k:Nat) (es:Es)|fq (c:Cl) (f:Nat) (es:Es)
 |mv (c:Cl) (i k j:Nat)
inductive Es where
 |nil|cons (e:E) (es:Es)
inductive Eo where
 |no|yes (e:E)
inductive It where
 |seq (e:E)|kI (es:Es)
 |rev (a:E)
end
mutual
inductive S where
 |set (i:Nat) (e:E)
 |ki (l:Θ) (e:E)
 |exp (e:E)|ret (e:E)|iff (t:E) (a b:Ss)|for (t:T) (it:It) (b:Ss)|qG (t:E) (b:Ss)
 |cnt
 |fP (c:Nat)
 |tr (f k:Nat) (es:Es)
 |q9 (c:Cl) (i k:Nat)
 |fst (c:Cl) (i k:Nat) (e:E)|new (c:Cl) (i f:Nat) (tp:List TP) (es:Es)
inductive Ss where
 |nil|cons (s:S) (ss:Ss)
end
inductive Fl where
 |nx|bk|ct|ret (d:D)
def big:Nat:=16777216
def cY(f:D->D->Option Bool):List D->List D->Option Bool
 |[],[]=>some true
 |x :: xs,y :: ys=>do
  let b <-f x y
  let c <-cY f xs ys
  pure (b&&c)
 |_,_=>some false
def bI(h:Hh)(n:Nat):Option (U2):=match h[n]? with
 |some (.lst ds)=>some ds
 |some (.bY ds)=>some ds
 |_=>none
def b2i(b:Bool):Int:=if b then 1 else 0
def m8(h:Hh)(f:D->D->Option Bool)(a b:Nat):Option Bool:=if a=b then (bI h a).map λ_=>true else match h[a]?,h[b]? with
 |some (.lst x),some (.lst y)=>cY f x y
 |some (.bY x),some (.lst y)=>cY f x y
 |some (.lst x),some (.bY y)=>cY f x y
 |_,_=>none
def lJ(h:Hh):Nat->D->D->Option Bool
 |0,_,_=>none
 |_+1,.aN,.aN=>some true
 |_+1,.bl a,.bl b=>some (a==b)
 |_+1,.int a,.int b=>some (a==b)
 |_+1,.bl a,.int b=>some (b2i a==b)
 |_+1,.int a,.bl b=>some (a==b2i b)
 |_+1,.str a,.str b=>some (a==b)
 |n+1,.tup a,.tup b=>cY (lJ h n) a b
 |n+1,.ref a,.ref b=>m8 h (lJ h n) a b
 |_+1,.ref a,_=>(bI h a).map λ_=>false
 |_+1,_,.ref a=>(bI h a).map λ_=>false
 |_+1,_,_=>some false
def deep:Nat:=20
def truthy(h:Hh):D->Option Bool
 |.aN=>some false
 |.bl b=>some b
 |.int i=>some (i != 0)
 |.str s=>some (!s.isEmpty)
 |.tup ds=>some (!ds.isEmpty)
 |.ref n=>match h[n]? with
  |_=>(bI h n).map λds=>!ds.isEmpty
def alloc(ds:U2)(h:Hh):R D:=if ds.length<=big then .ok (.ref h.length) (h++[.lst ds])else .bad
def rep{α:Type}(k:Nat)(l:List α):List α:=(List.replicate k l).flatten
def cK(i j:Int):Bool:=(decide (-(2 ^ 64)<i)&&decide (i<2 ^ 64)) || (decide (-(2 ^ 64)<j)&&decide (j<2 ^ 64))
def bO:bN->D->D->Hh->R D
 |.add,.int i,.int j,h=>.ok (.int (i+j)) h
 |.add,.str a,.str b,h=>if a.length+b.length<=big then .ok (.str (a++b)) h else .bad
 |.add,.tup a,.tup b,h=>if a.length+b.length<=big then .ok (.tup (a++b)) h else .bad
 |.add,.ref a,.ref b,h=>match h[a]?,h[b]? with
  |some (.lst x),some (.lst y)=>alloc (x++y) h
  |_,_=>.bad
 |.sub,.int i,.int j,h=>.ok (.int (i - j)) h
 |.mul,.int i,.int j,h=>if cK i j then .ok (.int (i*j)) h else .bad
 |.mul,.str a,.int k,h=>if 0<=k/\k<=1000/\a.length<=1000 then .ok (.str (rep k.toNat a)) h else .bad
 |.mul,.tup a,.int k,h=>if 0<=k/\k<=1000/\a.length<=1000 then .ok (.tup (rep k.toNat a)) h else .bad
 |.mul,.ref a,.int k,h=>match h[a]? with
  |some (.lst x)=>if 0<=k/\k<=1000/\x.length<=1000 then alloc (rep k.toNat x) h else .bad
  |_=>.bad
 |.fdiv,.int i,.int j,h=>if 0<j/\j<1073741824 then .ok (.int (i / j)) h else .bad
 |.mod,.int i,.int j,h=>if 0<j then .ok (.int (i % j)) h else .bad
 |_,_,_,_=>.bad
def lexLe:List Nat->List Nat->Bool
 |[],_=>true
 |_ :: _,[]=>false
 |x :: xs,y :: ys=>if x=y then lexLe xs ys else decide (x<y)
def cop(o:bA)(x y:D)(h:Hh):Option Bool:=match o,x,y with
 |.eq,x,y=>lJ h deep x y
 |.ne,x,y=>(lJ h deep x y).map (!·)
 |.lt,.int i,.int j=>some (decide (i<j))
 |.le,.int i,.int j=>some (decide (i<=j))
 |.gt,.int i,.int j=>some (decide (j<i))
 |.ge,.int i,.int j=>some (decide (j<=i))
 |_,_,_=>none
def fO(n:Nat)(i:Int):Option Nat:=if 0<=i then (if i<n then some i.toNat else none)else if -(n:Int)<=i then some (i+n).toNat else none
def bz{α:Type}(xs:List α)(i:Int):Option α:=(fO xs.length i).bind λj=>xs[j]?
def fy(x y:D)(h:Hh):Option D:=match x,y with
 |.tup ds,.int i=>bz ds i
 |.str s,.int i=>(bz s i).map λc=>.str [c]
 |.ref n,.int i=>(bI h n).bind λds=>bz ds i
 |_,_=>none
def aY(n d:Nat):Option Int->Nat
 |none=>d
 |some v=>if v<0 then (v+n).toNat else min v.toNat n
def cut{α:Type}(xs:List α)(lo hi:Option Int):List α:=(xs.drop (aY xs.length 0 lo)).take (aY xs.length xs.length hi - aY xs.length 0 lo)
def fQ(x:D)(lo hi:Option Int)(h:Hh):R D:=match x with
 |.tup ds=>.ok (.tup (cut ds lo hi)) h
 |.str s=>.ok (.str (cut s lo hi)) h
 |.ref n=>match bI h n with
  |some ds=>alloc (cut ds lo hi) h
  |none=>.bad
 |_=>.bad
def boolsOf:List D->Option (List Bool)
 |[]=>some []
 |.bl b :: ds=>(boolsOf ds).map λr=>b :: r
 |_=>none
def intsOf:List D->Option Q1
 |[]=>some []
 |.int i :: ds=>(intsOf ds).map λr=>i :: r
 |_=>none
def strsOf:List D->Option Γ
 |[]=>some []
 |.str s :: ds=>(strsOf ds).map λr=>s :: r
 |_=>none
def dh(z:Θ):List Θ->Θ
 |[]=>[]
 |[s]=>s
 |s :: t :: r=>s++z++dh z (t :: r)
def PZ(x:Θ):List Θ->Γ
 |[]=>[x]
 |y :: ys=>if lexLe x y then x :: y :: ys else y :: PZ x ys
def fz:List Θ->Γ
 |[]=>[]
 |x :: xs=>PZ x (fz xs)
def cZ(b:BI)(xs:U2)(h:Hh):R D:=match b,xs with
 |.len,[.str s]=>if s.length<=big then .ok (.int s.length) h else .bad
 |.len,[.tup ds]=>.ok (.int ds.length) h
 |.len,[.ref n]=>R.of ((bI h n).map λds=>.int ds.length) h
 |.sum,[.ref n]=>R.of (((bI h n).bind intsOf).map λa=>.int a.sum) h
 |.min,[.int i,.int j]=>.ok (.int (if j<i then j else i)) h
 |.max,[.int i,.int j]=>.ok (.int (if j > i then j else i)) h
 |_,_=>.bad
def gM(m:ME)(o:D)(xs:U2)(h:Hh):R D:=match m,o,xs with
 |.join,.str sep,[.ref n]=>match (bI h n).bind strsOf with
  |some a=>if (a.map (·.length)).sum+a.length*sep.length<=big then .ok (.str (dh sep a)) h else .bad
  |none=>.bad
 |.append,.ref n,[x]=>match h[n]? with
  |some (.lst ds)=>if ds.length<big then .ok .aN (h.set n (.lst (ds++[x])))else .bad
  |_=>.bad
 |.extend,.ref n,[.ref m]=>match h[n]?,h[m]? with
  |some (.lst ds),some (.lst es)=>if ds.length+es.length<=big then .ok .aN (h.set n (.lst (ds++es)))else .bad
  |_,_=>.bad
 |.pop,.ref n,[]=>match h[n]? with
  |some (.lst ds)=>match ds[ds.length - 1]? with
   |some x=>.ok x (h.set n (.lst ds.dropLast))
   |none=>.bad
  |_=>.bad
 |_,_,_=>.bad
def BU(m:ME)(x:D)(h:Hh):Bool:=match m,x with
 |.join,.str _=>true
 |.join,_=>false
 |_,.ref n=>(bI h n).isSome
 |_,_=>false
def pW(x:D):List (D×D)->Option D
 |[]=>none
 | (k,v) :: r=>match lJ [] 1 k x with
  |some true=>some v
  |some false=>pW x r
  |none=>none
abbrev Src:=U2×List (Nat×U2)
def gZ(h:Hh):D->Option Src
 |.tup ds=>some (ds,[])
 |.str s=>some (s.map λc=>.str [c],[])
 |.ref n=>(bI h n).map λds=>(ds,[(n,ds)])
 |_=>none
def range(lo:Int)(n:Nat):U2:=(List.range n).map λ(i:Nat)=>.int (lo+i)
def gH:List D->Option Src
 |[.int j]=>if -(2 ^ 62)<=j/\j<2 ^ 62 then some (range 0 j.toNat,[])else none
 |[.int i,.int j]=>if -(2 ^ 62)<=i/\i<2 ^ 62/\-(2 ^ 62)<=j/\j<2 ^ 62 then some (range i (j - i).toNat,[])else none
 |_=>none
def pX:Int->List D->U2
 |_,[]=>[]
 |k,x :: xs=>.tup [.int k,x] :: pX (k+1) xs
def DF(a b:U2):Bool:=@decide (a=b) (Classical.propDecidable _)
def yj(a b:U2):DF a b=true↔a=b:=@decide_eq_true_iff _ (Classical.propDecidable _)
@[simp] theorem DG(a:U2):DF a a=true:=(yj a a).mpr rfl
def stays(h:Hh):List (Nat×U2)->Bool
 |[]=>true
 | (n,ds) :: r=>(match bI h n with|some es=>DF es ds|none=>false)&&stays h r
def dJ:List Nat->List D->Fr->Option Fr
 |[],[],fr=>some fr
 |i :: is,d :: ds,fr=>dJ is ds (fr.set i (some d))
 |_,_,_=>none
def cC:T->D->Fr->Option Fr
 |.one i,d,fr=>some (fr.set i (some d))
 |.many l,.tup ds,fr=>dJ l ds fr
 |_,_,_=>none
def slots:T->Θ
 |.one i=>[i]
 |.many l=>l
def undef(t:T)(fr:Fr):Bool:=(slots t).all λi=>(fr[i]?.join).isNone
def IJ:D->Option (U2)
 |.tup ds=>some ds
 |_=>none
def wU:D->Hh->R D
 |.tup ds,h=>.ok (.tup ds) h
 |.ref n,h=>match bI h n with
  |some ds=>if ds.length<=big then .ok (.tup ds) h else .bad
  |none=>.bad
 |_,_=>.bad
def P0(h:Hh):D->Option Src
 |.ref n=>(bI h n).map λds=>(ds,[(n,ds)])
 |_=>none
def cL(f:D->Hh->R (Option D))(z:List (Nat×U2)):List D->Hh->R (U2)
 |[],h=>if stays h z then .ok [] h else .bad
 |d :: ds,h=>if stays h z then (f d h).bind λo a=>(cL f z ds a).bind λr b=>.ok (o.toList++r) b else .bad
def forL(f:D->Fr->Hh->R (Fl×Fr))(z:List (Nat×U2)):List D->Fr->Hh->R (Fl×Fr)
 |[],fr,h=>if stays h z then .ok (.nx,fr) h else .bad
 |d :: ds,fr,h=>if stays h z then (f d fr h).bind λp a=>match p.1 with
   |.nx=>forL f z ds p.2 a
   |.ct=>forL f z ds p.2 a
   |.bk=>.ok (.nx,p.2) a
   |.ret x=>.ok (.ret x,p.2) a
  else .bad
def g7(t:Fr->Hh->R Bool)(f:Fr->Hh->R (Fl×Fr)):Nat->Fr->Hh->R (Fl×Fr)
 |0,_,_=>.bad
 |n+1,fr,h=>(t fr h).bind λb c=>if b then (f fr c).bind λp a=>match p.1 with
   |.nx=>g7 t f n p.2 a
   |.ct=>g7 t f n p.2 a
   |.bk=>.ok (.nx,p.2) a
   |.ret x=>.ok (.ret x,p.2) a
  else .ok (.nx,fr) c
abbrev aJ:=Nat->List D->Hh->R D
def intOf:D->Option Int
 |.int i=>some i
 |_=>none
def aax(h:Hh):D->Bool
 |.ref n=>match h[n]? with
  |some (.obj _ _)=>false
  |some (.cD _ _)=>false
  |_=>true
 |_=>true
def jI(c:Cl)(h:Hh):Option D->Option (Nat×U2)
 |some (.ref n)=>match h[n]? with
  |some (.obj c' ds)=>if c'=c then some (n,ds)else none
  |_=>none
 |_=>none
def o8(c:Cl)(ds:U2)(k:Nat):Option (U2):=if c.nv<=k/\k<c.nl then (match ds[k]? with
  |some (.tup es)=>some es
  |_=>none)else none
def Fw(o:FU)(es as:U2)(h:Hh):R D:=match o,as with
 |.len,[]=>.ok (.int es.length) h
 |.t9,[]=>.ok (.bl (!es.isEmpty)) h
 |.Wh,[]=>alloc es h
 |.ix,[.int j]=>R.of (bz es j) h
 |.BR,[.int j]=>alloc (cut es (some j) none) h
 |_,_=>.bad
def Fx(o:FM)(es as:U2):Option (D×U2):=match o,as with
 |.app,[x]=>if es.length<big then some (.aN,es++[x])else none
 |.pop,[]=>match es[es.length - 1]? with
  |some x=>some (x,es.dropLast)
  |none=>none
 |_,_=>none
def KR(c:Cl)(ds:U2)(k j:Nat):Option (U2):=(o8 c ds k).bind λxs=>(o8 c ds j).bind λa=>match a[a.length - 1]? with
  |some y=>if xs.length<big/\k≠j then some ((ds.set j (.tup a.dropLast)).set k (.tup (xs++[y])))else none
  |none=>none
def ri(c:Cl)(fr:Fr)(h:Hh):Es->Bool
 |.cons (.v i) _=>(jI c h fr[i]?.join).isSome
 |_=>false
def nV(as:U2):List TP->Option (U2)
 |[]=>some []
 |.a j :: r=>as[j]?.bind λd=>(nV as r).map λl=>d :: l
 |.t j :: r=>as[j]?.bind λd=>(nV as r).map λl=>.tup [d] :: l
 |.c d :: r=>(nV as r).map λl=>d :: l
def iX(n lo:Nat):Nat->List O
 |0=>[]
 |k+1=>.cD n lo :: iX n (lo+1) k
mutual
noncomputable def ev(P:aJ):E->Fr->Hh->R D
 |.c d,_,h=>.ok d h
 |.v i,fr,h=>R.of (fr[i]?.join) h
 |.tup es,fr,h=>(bu P es fr h).bind λds e=>if ds.length<=big then .ok (.tup ds) e else .bad
 |.lst es,fr,h=>(bu P es fr h).bind λds e=>alloc ds e
 |.bin o a b,fr,h=>(ev P a fr h).bind λx e=>(ev P b fr e).bind λy g=>bO o x y g
 |.cmp o a b,fr,h=>(ev P a fr h).bind λx e=>(ev P b fr e).bind λy g=>R.of ((cop o x y g).map .bl) g
 |.ch o p a b c,fr,h=>(ev P a fr h).bind λx e=>(ev P b fr e).bind λy g=>(R.of (cop o x y g) g).bind λk q=>
   if k then (ev P c fr q).bind λz r=>R.of ((cop p y z r).map .bl) r else .ok (.bl false) q
 |.nt a,fr,h=>(ev P a fr h).bind λx e=>match x with
   |.bl b=>.ok (.bl (!b)) e
   |_=>.bad
 |.neg a,fr,h=>(ev P a fr h).bind λx e=>match x with
   |.int i=>.ok (.int (-i)) e
   |_=>.bad
 |.an a b,fr,h=>(ev P a fr h).bind λx e=>match x with
   |.bl true=>ev P b fr e
   |.bl false=>.ok (.bl false) e
   |_=>.bad
 |.orr a b,fr,h=>(ev P a fr h).bind λx e=>match x with
   |.bl true=>.ok (.bl true) e
   |.bl false=>ev P b fr e
   |_=>.bad
 |.fV t a b,fr,h=>(lK P t (ev P t fr h) fr h).bind λk e=>if k then ev P a fr e else ev P b fr e
 |.ix a b,fr,h=>(ev P a fr h).bind λx e=>(ev P b fr e).bind λy g=>R.of (fy x y g) g
 |.sl a lo hi,fr,h=>(ev P a fr h).bind λx e=>(jy P lo fr e).bind λl g=>(jy P hi fr g).bind λu q=>fQ x l u q
 |.cl f es,fr,h=>(bu P es fr h).bind λds e=>P f ds e
 |.bi b es,fr,h=>(bu P es fr h).bind λds e=>cZ b ds e
 |.me m o es,fr,h=>(ev P o fr h).bind λx e=>if BU m x e then (bu P es fr e).bind λds g=>gM m x ds g else .bad
 |.comp elt t it cond,fr,h=>(fc P it fr h).bind λs e=>if undef t fr then
   (cL (λd g=>match cC t d fr with
    |none=>.bad
    |some C=>(lM P cond C g).bind λk q=>if k then (ev P elt C q).bind λx r=>.ok (some x) r else .ok none q) s.2 s.1 e).bind λds g=>alloc ds g else .bad
 |.jx it,fr,h=>(fc P it fr h).bind λs e=>alloc s.1 e
 |.kh a,fr,h=>(ev P a fr h).bind λx e=>wU x e
 |.fld c i k,fr,h=>match jI c h fr[i]?.join with
  |some (_,ds)=>if k<c.nv then R.of ds[k]? h else .bad
  |none=>.bad
 |.fu c o i k es,fr,h=>if (jI c h fr[i]?.join).isSome then (bu P es fr h).bind λA e=>match jI c e fr[i]?.join with
   |some (_,ds)=>(R.of (o8 c ds k) e).bind λxs g=>Fw o xs A g
   |none=>.bad
  else .bad
 |.fm c o i k es,fr,h=>if (jI c h fr[i]?.join).isSome then (bu P es fr h).bind λA e=>match jI c e fr[i]?.join with
   |some (n,ds)=>(R.of ((o8 c ds k).bind λxs=>Fx o xs A) e).bind λp g=>.ok p.1 (g.set n (.obj c (ds.set k (.tup p.2))))
   |none=>.bad
  else .bad
 |.mv c i k j,fr,h=>match jI c h fr[i]?.join with
  |some (n,ds)=>(R.of (KR c ds k j) h).bind λB g=>.ok .aN (g.set n (.obj c B))
  |none=>.bad
 |.fq c f es,fr,h=>if ri c fr h es then (bu P es fr h).bind λds e=>P f ds e else .bad
noncomputable def bu(P:aJ):Es->Fr->Hh->R (U2)
 |.nil,_,h=>.ok [] h
 |.cons e es,fr,h=>(ev P e fr h).bind λd a=>(bu P es fr a).bind λds b=>.ok (d :: ds) b
noncomputable def jy(P:aJ):Eo->Fr->Hh->R (Option Int)
 |.no,_,h=>.ok none h
 |.yes e,fr,h=>(ev P e fr h).bind λd a=>R.of ((intOf d).map some) a
noncomputable def lM(P:aJ):Eo->Fr->Hh->R Bool
 |.no,_,h=>.ok true h
 |.yes e,fr,h=>lK P e (ev P e fr h) fr h
noncomputable def lK(P:aJ):E->R D->Fr->Hh->R Bool
 |.an a b,_,fr,h=>(lK P a (ev P a fr h) fr h).bind λk c=>if k then lK P b (ev P b fr c) fr c else .ok false c
 |.orr a b,_,fr,h=>(lK P a (ev P a fr h) fr h).bind λk c=>if k then .ok true c else lK P b (ev P b fr c) fr c
 |.nt a,_,fr,h=>(lK P a (ev P a fr h) fr h).bind λk c=>.ok (!k) c
 |_,v,_,_=>v.bind λx c=>R.of (truthy c x) c
noncomputable def fc(P:aJ):It->Fr->Hh->R Src
 |.seq e,fr,h=>(ev P e fr h).bind λx b=>R.of (gZ b x) b
 |.kI es,fr,h=>(bu P es fr h).bind λds b=>R.of (gH ds) b
 |.rev a,fr,h=>(ev P a fr h).bind λx b=>R.of ((IJ x).map λds=>(ds.reverse,[])) b
end
abbrev bB(P:aJ)(e:E)(fr:Fr)(h:Hh):R Bool:=lK P e (ev P e fr h) fr h
def leaf:E->Bool
 |.an _ _=>false
 |.orr _ _=>false
 |.nt _=>false
 |_=>true
def IL{P:aJ}{fr:Fr}{h:Hh}:bB P (.an a b) fr h=(bB P a fr h).bind λk h1=>if k then bB P b fr h1 else .ok false h1:=rfl
def IM{P:aJ}{fr:Fr}{h:Hh}:bB P (.orr a b) fr h=(bB P a fr h).bind λk h1=>if k then .ok true h1 else bB P b fr h1:=rfl
def P1{P:aJ}{fr:Fr}{h:Hh}:bB P (.nt a) fr h=(bB P a fr h).bind λk h1=>.ok (!k) h1:=rfl
def eB{P:aJ}{e:E}{fr:Fr}{h:Hh}(l:leaf e=true):bB P e fr h=(ev P e fr h).bind λx h1=>R.of (truthy h1 x) h1:=by
 cases e<;>first|rfl|nomatch l
def xo:Nat:=1000
def DH(k:Nat):D->Option D
 |.int c=>if 0<=c/\c<k then some (.tup [.str [114,101,102,117,115,101,100],.int c])else none
 |_=>none
def tryD(k:Nat):R D->R D->R D
 |.ok d h,_=>.ok d h
 |.bad,q=>q.bind λc h=>R.of (DH k c) h
mutual
noncomputable def ex(P:aJ)(w:Nat):S->Fr->Hh->R (Fl×Fr)
 |.set i e,fr,h=>(ev P e fr h).bind λx g=>.ok (.nx,fr.set i (some x)) g
 |.ki l e,fr,h=>(ev P e fr h).bind λx g=>match cC (.many l) x fr with
   |some p=>.ok (.nx,p) g
   |none=>.bad
 |.exp e,fr,h=>(ev P e fr h).bind λ_ g=>.ok (.nx,fr) g
 |.ret e,fr,h=>(ev P e fr h).bind λx g=>.ok (.ret x,fr) g
 |.iff t a b,fr,h=>(bB P t fr h).bind λk g=>if k then exs P w a fr g else exs P w b fr g
 |.for t it b,fr,h=>(fc P it fr h).bind λs g=>forL (λd p j=>match cC t d p with
   |some q=>exs P w b q j
   |none=>.bad) s.2 s.1 fr g
 |.qG t b,fr,h=>g7 (λp j=>bB P t p j) (λp j=>exs P w b p j) w fr h
 |.cnt,fr,h=>.ok (.ct,fr) h
 |.fP _,_,_=>.bad
 |.tr f k es,fr,h=>(bu P es fr h).bind λds g=>(tryD k (P f ds g) (P (f+xo) ds g)).bind λx j=>.ok (.ret x,fr) j
 |.fst c i k e,fr,h=>(ev P e fr h).bind λx g=>match jI c g fr[i]?.join with
  |some (n,ds)=>if k<c.nv/\k<ds.length then .ok (.nx,fr) (g.set n (.obj c (ds.set k x)))else .bad
  |none=>.bad
 |.q9 c i k,fr,h=>match jI c h fr[i]?.join with
  |some (n,ds)=>if (c.nv<=k/\k<c.nl)/\k<ds.length then .ok (.nx,fr) (h.set n (.obj c (ds.set k (.tup [])))++[.cD n k])else .bad
  |none=>.bad
 |.new c i f tp es,fr,h=>(bu P es fr h).bind λr y=>(P f [] y).bind λ_ g=>(R.of (nV r tp) g).bind λds j=>if ds.length=c.nm.length then .ok (.nx,fr.set i (some (.ref j.length))) (j++.obj c ds :: iX j.length c.nv (ds.length - c.nv))else .bad
noncomputable def exs(P:aJ)(w:Nat):Ss->Fr->Hh->R (Fl×Fr)
 |.nil,fr,h=>.ok (.nx,fr) h
 |.cons s ss,fr,h=>(ex P w s fr h).bind λp a=>match p.1 with
   |.nx=>exs P w ss p.2 a
   |_=>.ok p a
end
def iM(P:aJ)(w:Nat)(fr:Fr)(h:Hh):(∀e,ex P w (.exp e) fr h=((ev P e fr h).bind λ_ h1=>.ok (.nx,fr) h1))
 /\(∀i e,ex P w (.set i e) fr h=((ev P e fr h).bind λx h1=>.ok (.nx,fr.set i (some x)) h1))
 /\(∀l e,ex P w (.ki l e) fr h=((ev P e fr h).bind λx h1=>match cC (.many l) x fr with
   |some ao=>.ok (.nx,ao) h1
   |none=>.bad))
 /\(∀e,ex P w (.exp e) fr h=((ev P e fr h).bind λ_ h1=>.ok (.nx,fr) h1))
 /\(∀e,ex P w (.ret e) fr h=((ev P e fr h).bind λx h1=>.ok (.ret x,fr) h1))
 /\(∀t a b,ex P w (.iff t a b) fr h=((bB P t fr h).bind λk h1=>if k then exs P w a fr h1 else exs P w b fr h1))
 /\(∀t it b,ex P w (.for t it b) fr h=((fc P it fr h).bind λs h1=>forL (λd ao h2=>match cC t d ao with
   |some cB=>exs P w b cB h2
   |none=>.bad) s.2 s.1 fr h1))
 /\(∀t b,ex P w (.qG t b) fr h=(g7 (λao h2=>bB P t ao h2) (λao h2=>exs P w b ao h2) w fr h))
 /\(ex P w .cnt fr h=(.ok (.ct,fr) h))
 /\(∀x1,ex P w (.fP x1) fr h=(.bad))
 /\(∀f k es,ex P w (.tr f k es) fr h=((bu P es fr h).bind λds h1=>(tryD k (P f ds h1) (P (f+xo) ds h1)).bind λx h2=>.ok (.ret x,fr) h2))
 /\(∀c i k e,ex P w (.fst c i k e) fr h=((ev P e fr h).bind λx h1=>match jI c h1 fr[i]?.join with
  |some (n,ds)=>if k<c.nv/\k<ds.length then .ok (.nx,fr) (h1.set n (.obj c (ds.set k x)))else .bad
  |none=>.bad))
 /\(∀c i k,ex P w (.q9 c i k) fr h=(match jI c h fr[i]?.join with
  |some (n,ds)=>if (c.nv<=k/\k<c.nl)/\k<ds.length then .ok (.nx,fr) (h.set n (.obj c (ds.set k (.tup [])))++[.cD n k])else .bad
  |none=>.bad))
 /\(∀c i f tp es,ex P w (.new c i f tp es) fr h=((bu P es fr h).bind λas h0=>(P f [] h0).bind λ_ h1=>(R.of (nV as tp) h1).bind λds h2=>if ds.length=c.nm.length then .ok (.nx,fr.set i (some (.ref h2.length))) (h2++.obj c ds :: iX h2.length c.nv (ds.length - c.nv))else .bad))
 /\True:=by and_intros<;>intros<;>first|rfl|trivial
structure Fn where
 np:Nat
 ns:Nat
 body:Ss
def cX(fn:Fn)(ds:U2):Fr:=ds.map some++List.replicate (fn.ns - fn.np) none
def endOf(r:R (Fl×Fr)):R D:=r.bind λp h=>match p.1 with
 |.ret d=>.ok d h
 |.nx=>.ok .aN h
 |_=>.bad
abbrev XR:=Option (Nat×Hh)
abbrev eE:=Nat->List D->Hh->XR
mutual
noncomputable def xe(P:aJ)(X:eE):E->Fr->Hh->XR
 |.cl f es,fr,h=>match bu P es fr h with
  |.ok ds a=>X f ds a
  |.bad=>xa P X es fr h
 |.fq c f es,fr,h=>if ri c fr h es then (match bu P es fr h with
  |.ok ds a=>X f ds a
  |.bad=>xa P X es fr h)else none
 |_,_,_=>none
noncomputable def xa(P:aJ)(X:eE):Es->Fr->Hh->XR
 |.nil,_,_=>none
 |.cons e es,fr,h=>match ev P e fr h with
  |.ok _ a=>xa P X es fr a
  |.bad=>xe P X e fr h
end
mutual
noncomputable def xs(P:aJ)(X:eE)(w:Nat):S->Fr->Hh->XR
 |.fP c,_,h=>if c<9 then some (c,h)else none
 |.set _ e,fr,h=>xe P X e fr h
 |.exp e,fr,h=>xe P X e fr h
 |.ret e,fr,h=>xe P X e fr h
 |.fst _ _ _ e,fr,h=>xe P X e fr h
 |.iff t a b,fr,h=>match bB P t fr h with
  |.ok k d=>if k then xss P X w a fr d else xss P X w b fr d
  |.bad=>xe P X t fr h
 |_,_,_=>none
noncomputable def xss(P:aJ)(X:eE)(w:Nat):Ss->Fr->Hh->XR
 |.nil,_,_=>none
 |.cons s ss,fr,h=>match ex P w s fr h with
  |.ok (.nx,af) h1=>xss P X w ss af h1
  |.ok _ _=>none
  |.bad=>xs P X w s fr h
end
def qH(X:eE)(f:Nat)(ds:U2)(h:Hh):R D:=if xo<=f then (match X (f - xo) ds h with
  |some (c,h')=>.ok (.int c) h'
  |none=>.bad)else .bad
def runs(F:List Fn)(w:Nat):Nat->aJ×eE
 |0=>(λ_ _ _=>.bad,λ_ _ _=>none)
 |n+1=>
  let X:eE:=λf ds h=>match F[f]? with
   |some a=>if ds.length=a.np then xss (runs F w n).1 (runs F w n).2 w a.body (cX a ds) h else none
   |none=>none
  (λf ds h=>match F[f]? with
   |some a=>if ds.length=a.np then endOf (exs (runs F w n).1 w a.body (cX a ds) h)else .bad
   |none=>qH X f ds h,X)
def run(F:List Fn)(w n:Nat):aJ:=(runs F w n).1
def dM(F:List Fn)(w n:Nat):eE:=(runs F w n).2
def gg(F:List Fn)(w n f:Nat)(ds:U2)(h:Hh):run F w (n+1) f ds h=match F[f]? with
  |some a=>if ds.length=a.np then endOf (exs (run F w n) w a.body (cX a ds) h)else .bad
  |none=>qH (dM F w (n+1)) f ds h:=rfl
def kj(F:List Fn)(w n f:Nat)(ds:U2)(h:Hh):dM F w (n+1) f ds h=match F[f]? with
  |some a=>if ds.length=a.np then xss (run F w n) (dM F w n) w a.body (cX a ds) h else none
  |none=>none:=rfl
mutual
noncomputable def ua(rz:Θ):E->Bool
 |.cl f a=>!rz.contains f&&BV rz a
 |.fq _ f a=>!rz.contains f&&BV rz a
 |_=>true
noncomputable def BV(rz:Θ):Es->Bool
 |.nil=>true
 |.cons e a=>ua rz e&&BV rz a
end
mutual
noncomputable def vj(rz:Θ):S->Bool
 |.fP c=>decide (9<=c)
 |.set _ e=>ua rz e
 |.exp e=>ua rz e
 |.ret e=>ua rz e
 |.fst _ _ _ e=>ua rz e
 |.iff t a b=>ua rz t&&(rj rz a&&rj rz b)
 |_=>true
noncomputable def rj(rz:Θ):Ss->Bool
 |.nil=>true
 |.cons s a=>vj rz s&&rj rz a
end
section
variable{P:aJ}{X:eE}{w:Nat}{rz:Θ}(hz:∀f,rz.contains f=false->∀ds h,X f ds h=none)
include hz
mutual
theorem uD:∀(e:E) {fr:Fr}{h:Hh},ua rz e=true->xe P X e fr h=none
 |.cl f es,fr,h,z=>by
  simp only[ua,Bg,abd]at z;simp only[xe];split
  .exact hz f z.1 _ _
  .exact DI es z.2
 |.ix _ _,_,_,_=>rfl|.me _ _ _,_,_,_=>rfl
 |.fq c f es,fr,h,z=>by
  simp only[ua,Bg,abd]at z;simp only[xe];split
  .split
   .exact hz f z.1 _ _
   .exact DI es z.2
  .rfl
 |.tup _,_,_,_=>rfl|.comp _ _ _ _,_,_,_=>rfl|.kh _,_,_,_=>rfl
 |.c _,_,_,_=>rfl|.v _,_,_,_=>rfl|.lst _,_,_,_=>rfl
 |.bin _ _ _,_,_,_=>rfl|.cmp _ _ _,_,_,_=>rfl
 |.ch _ _ _ _ _,_,_,_=>rfl
 |.nt _,_,_,_=>rfl|.neg _,_,_,_=>rfl|.an _ _,_,_,_=>rfl|.orr _ _,_,_,_=>rfl|.fV _ _ _,_,_,_=>rfl
 |.sl _ _ _,_,_,_=>rfl
 |.bi _ _,_,_,_=>rfl
 |.jx _,_,_,_=>rfl
 |.fld _ _ _,_,_,_=>rfl|.fu _ _ _ _ _,_,_,_=>rfl
 |.fm _ _ _ _ _,_,_,_=>rfl
 |.mv _ _ _ _,_,_,_=>rfl
theorem DI:∀(es:Es) {fr:Fr}{h:Hh},BV rz es=true->xa P X es fr h=none
 |.nil,_,_,_=>rfl
 |.cons e es,fr,h,z=>by
  simp only[BV,Bg]at z;simp only[xa];split
  .exact DI es z.2
  .exact uD e z.1
end
mutual
theorem P4:∀(s:S) {fr:Fr}{h:Hh},vj rz s=true->xs P X w s fr h=none
 |.fP c,_,_,z=>by simp only[vj,abc]at z;simp only[xs];rw[aaH (by lia)]
 |.set i e,fr,h,z=>by simp only[vj]at z;simp only[xs];exact uD hz e z
 |.exp e,fr,h,z=>by simp only[vj]at z;simp only[xs];exact uD hz e z
 |.ret e,fr,h,z=>by simp only[vj]at z;simp only[xs];exact uD hz e z
 |.fst _ _ _ e,fr,h,z=>by simp only[vj]at z;simp only[xs];exact uD hz e z
 |.iff t a b,fr,h,z=>by
  simp only[vj,Bg]at z;simp only[xs];split
  .split
   .exact vn a z.2.1
   .exact vn b z.2.2
  .exact uD hz t z.1
 |.for _ _ _,_,_,_=>rfl|.qG _ _,_,_,_=>rfl
 |.ki _ _,_,_,_=>rfl
 |.cnt,_,_,_=>rfl
 |.tr _ _ _,_,_,_=>rfl
 |.q9 _ _ _,_,_,_=>rfl
 |.new _ _ _ _ _,_,_,_=>rfl
theorem vn:∀(s:Ss) {fr:Fr}{h:Hh},rj rz s=true->xss P X w s fr h=none
 |.nil,_,_,_=>rfl
 |.cons s ss,fr,h,z=>by
  simp only[rj,Bg]at z;simp only[xss];split
  .exact vn ss z.2
  .rfl
  .exact P4 s z.1
end
end
def rq(rz:Θ):Nat->List Fn->Bool
 |_,[]=>true
 |k,fn :: r=>(rz.contains k ||rj rz fn.body)&&rq rz (k+1) r
theorem rq.get:∀{F:List Fn}{k f:Nat}{fn:Fn},rq rz k F=true->F[f]?=some fn->rz.contains (k+f)=false->rj rz fn.body=true
 |_ :: r,k,0,fn,z,e,n=>by
  simp only[rq,Bg,abj]at z;cases e;rcases z.1 with z|z
  .rw[Nat.add_zero,z]at n;cases n
  .exact z
 |_ :: r,k,f+1,fn,z,e,n=>by
  simp only[rq,Bg]at z;exact rq.get z.2 (by simpa using e) (by rw[show k+1+f=k+(f+1)by lia];exact n)
theorem wV(z:rq rz 0 F=true)(w:Nat):∀(n f:Nat),rz.contains f=false->∀ds h,dM F w n f ds h=none
 |0,_,_,_,_=>rfl
 |n+1,f,k,ds,h=>by
  rw[kj];cases y:F[f]? with
  |none=>rfl
  |some a=>
   simp only;split
   .exact vn (wV z w n) _ (rq.get z y (by rw[Nat.zero_add];exact k))
   .rfl
section
variable{P:aJ}{X:eE}{w:Nat}(hX:∀f ds h r,X f ds h=some r->P f ds h=.bad)
include hX
mutual
theorem iA:∀(e:E) {fr:Fr}{h:Hh}{r:Nat×Hh},xe P X e fr h=some r->ev P e fr h=.bad/\bB P e fr h=.bad
 |.cl f es,fr,h,r,z=>by
  simp only[xe]at z;have q:ev P (.cl f es) fr h=.bad:=by
   rw[ev];cases y:bu P es fr h with
   |ok ds a=>rw[y]at z;exact hX _ _ _ _ z
   |bad=>rfl
  exact⟨q,by rw[eB rfl,q];rfl⟩
 |.ix _ _,_,_,_,z=>nomatch z|.me _ _ _,_,_,_,z=>nomatch z
 |.fq c f es,fr,h,r,z=>by
  simp only[xe]at z;split at z
  case isFalse=>cases z
  rename_i k;have q:ev P (.fq c f es) fr h=.bad:=by
   rw[ev,OL k];cases y:bu P es fr h with
   |ok ds a=>rw[y]at z;exact hX _ _ _ _ z
   |bad=>rfl
  exact⟨q,by rw[eB rfl,q];rfl⟩
 |.tup _,_,_,_,z=>nomatch z|.comp _ _ _ _,_,_,_,z=>nomatch z|.kh _,_,_,_,z=>nomatch z
 |.c _,_,_,_,z=>nomatch z|.v _,_,_,_,z=>nomatch z|.lst _,_,_,_,z=>nomatch z
 |.bin _ _ _,_,_,_,z=>nomatch z|.cmp _ _ _,_,_,_,z=>nomatch z
 |.ch _ _ _ _ _,_,_,_,z=>nomatch z
 |.nt _,_,_,_,z=>nomatch z|.neg _,_,_,_,z=>nomatch z|.an _ _,_,_,_,z=>nomatch z|.orr _ _,_,_,_,z=>nomatch z|.fV _ _ _,_,_,_,z=>nomatch z
 |.sl _ _ _,_,_,_,z=>nomatch z
 |.bi _ _,_,_,_,z=>nomatch z
 |.jx _,_,_,_,z=>nomatch z
 |.fld _ _ _,_,_,_,z=>nomatch z|.fu _ _ _ _ _,_,_,_,z=>nomatch z
 |.fm _ _ _ _ _,_,_,_,z=>nomatch z
 |.mv _ _ _ _,_,_,_,z=>nomatch z
theorem zM:∀(es:Es) {fr:Fr}{h:Hh}{r:Nat×Hh},xa P X es fr h=some r->bu P es fr h=.bad
 |.nil,_,_,_,z=>nomatch z
 |.cons e es,fr,h,r,z=>by
  simp only[xa]at z;rw[bu];cases y:ev P e fr h with
  |ok d a=>rw[y]at z;simp only[ak];rw[zM es z];rfl
  |bad=>rfl
end
mutual
theorem rA:∀(s:S) {fr:Fr}{h:Hh}{r:Nat×Hh},xs P X w s fr h=some r->ex P w s fr h=.bad
 |.fP c,_,_,_,_=>by rw[ex]
 |.set i e,fr,h,r,z=>by rw[ex,(iA hX e z).1];rfl
 |.exp e,fr,h,r,z=>by rw[ex,(iA hX e z).1];rfl
 |.ret e,fr,h,r,z=>by rw[ex,(iA hX e z).1];rfl
 |.fst _ _ _ e,fr,h,r,z=>by rw[ex,(iA hX e z).1];rfl
 |.iff t a b,fr,h,r,z=>by
  simp only[xs]at z;rw[ex];cases y:bB P t fr h with
  |bad=>rfl
  |ok k d=>
   rw[y]at z;simp only at z;simp only[ak];cases k with
   |true=>exact jm a z
   |false=>exact jm b z
 |.for _ _ _,_,_,_,z=>nomatch z|.qG _ _,_,_,_,z=>nomatch z
 |.ki _ _,_,_,_,z=>nomatch z
 |.cnt,_,_,_,z=>nomatch z
 |.tr _ _ _,_,_,_,z=>nomatch z
 |.q9 _ _ _,_,_,_,z=>nomatch z
 |.new _ _ _ _ _,_,_,_,z=>nomatch z
theorem jm:∀(s:Ss) {fr:Fr}{h:Hh}{r:Nat×Hh},xss P X w s fr h=some r->exs P w s fr h=.bad
 |.nil,_,_,_,z=>nomatch z
 |.cons s ss,fr,h,r,z=>by
  simp only[xss]at z;rw[exs];split at z
  .rename_i e;rw[e];exact jm ss z
  .cases z
  .rw[rA s z];rfl
end
end
theorem uE(F:List Fn)(w:Nat):∀(n f:Nat) (ds:U2) (h:Hh) (r:Nat×Hh),dM F w n f ds h=some r->run F w n f ds h=.bad
 |0,_,_,_,_,_=>rfl
 |n+1,f,ds,h,r,z=>by
  rw[kj]at z;rw[gg];cases y:F[f]? with
  |none=>rw[y]at z;cases z
  |some a=>
   rw[y]at z;simp only at z ⊢;split at z
   .rename_i k;rw[OL k,jm (uE F w n) _ z];rfl
   .cases z
end Ev
namespace Sm
open PySem PySem.Spec PyProof.Rows L2
def aI(l:Θ):Str:=⟨l.toArray⟩
def jq(l:Θ):(aI l).length=l.length:=by simp[aI,Str.length]
def wW(h:aI a=aI b):a=b:=by
 have c:a.toArray=b.toArray:=aaL Str.cps h;simpa using aaL Array.toList c
def o9:Ev.big=sizeLine:=by rfl
section
variable(K:Φ)
mutual
def RV(H:Hp)(r:Y1):Ev.D->V->Prop
 |.aN,v=>v=.aN
 |.bl b,v=>v=.bl b
 |.int i,v=>v=.int i
 |.str s,v=>v=.str (aI s)/\s.length<=sizeLine
 |.ref n,v=>∃a,v=.ref a/\r[n]?=some a
 |.tup ds,v=>∃a vs,v=.ref a/\dI K H a vs/\aV H r ds vs
def aV(H:Hp)(r:Y1):List Ev.D->List V->Prop
 |[],vs=>vs=[]
 |d :: ds,vs=>∃v w,vs=v :: w/\RV H r d v/\aV H r ds w
end
def DJ(H:Hp)(a:Addr)(vs:T1):Prop:=(∃o,H a=some (.bY o (.lst vs)))\/
 ∃(o:Obj) (its:Array Value) (n:Nat),K.lookup a=some o/\o.cls=.type "list" /\o.dict=none/\o.data=.seq its n/\its.size<=sizeLine/\Vals vs its.toList
def RO(H:Hp)(r:Y1):Ev.O->Addr->Prop
 |.lst ds,a=>∃vs,H a=some (.lst vs)/\aV K H r ds vs
 |.bY ds,a=>∃vs,DJ K H a vs/\aV K H r ds vs
 |.obj _ _,_=>True
 |.cD _ _,_=>True
def yk(f:Str):Prop:=f = "steps" \/f = "texts" \/f = "rows" \/f = "gone"
def Y9(es:Q1):List (Key×V):=es.map λi=>(Sum.inl i,V.bl true)
structure rB(H:Hp)(r:Y1)(h:Ev.Hh)(n:Nat)(c:Ev.Cl)(ds:List Ev.D)(a dx:Addr)(fs:List (Str×V)):Prop where
 at_:r[n]?=some a
 ins:∃C,W.nsIn K mainGlobals (aI c.cn)=some (some (.ref C))/\H a=some (.ins C dx fs)
 len:ds.length=c.nm.length
 few:fs.length<1000
 nd:c.nm.Nodup
 no:∀x,x∉c.nm.map aI->fs.lookup x=none
 val:∀(k:Nat) f d,k<c.nv->c.nm[k]?=some f->ds[k]?=some d->∃v,fs.lookup (aI f)=some v/\RV K H r d v
 lst:∀(k:Nat) f d,c.nv<=k/\k<c.nl->c.nm[k]?=some f->ds[k]?=some d->∃es,∃m:Nat,∃b vs,d=.tup es/\fs.lookup (aI f)=some (.ref b)/\r[m]?=some b/\h[m]?=some (.cD n k)/\H b=some (.lst vs)/\aV K H r es vs
 rC:∀(k:Nat) f d,c.nv<=k/\c.nl<=k->c.nm[k]?=some f->ds[k]?=some d->∃es:Q1,∃m:Nat,∃b,d=.tup (es.map .int)/\fs.lookup (aI f)=some (.ref b)/\r[m]?=some b/\h[m]?=some (.cD n k)/\H b=some (.dK (Y9 es))
def zN:Ev.O->Bool
 |.lst _=>true
 |.cD _ _=>true
 |_=>false
def DK(o:HO):Prop:=(∃vs,o=.lst vs)\/∃kvs,o=.dK kvs
structure OX(H:Hp)(r:Y1)(h:Ev.Hh):Prop where
 ob:∀(n:Nat) c ds,h[n]?=some (.obj c ds)->∃a dx fs,rB K H r h n c ds a dx fs
 pv:∀(m n k:Nat),h[m]?=some (.cD n k)->∃a o,r[m]?=some a/\H a=some o/\DK o
 jp:∀(m m':Nat) a n k o,r[m]?=some a->r[m']?=some a->h[m]?=some (.cD n k)->h[m']?=some o->zN o=true->m=m'
 jo:∀(n n':Nat) a c ds c' ds',r[n]?=some a->r[n']?=some a->h[n]?=some (.obj c ds)->h[n']?=some (.obj c' ds')->n=n'
structure HR(H:Hp)(r:Y1)(h:Ev.Hh):Prop where
 len:r.length=h.length
 ob:∀(n:Nat) o,h[n]?=some o->∃a,r[n]?=some a/\RO K H r o a
 inj:∀(n m:Nat) a x y,r[n]?=some a->r[m]?=some a->h[n]?=some (.lst x)->h[m]?=some (.lst y)->n=m
 ox:OX K H r h
structure Fm(r r':Y1)(H H':Hp):Prop where
 pre:∀(n:Nat) a,r[n]?=some a->r'[n]?=some a
 new:∀a∈r',a∈r\/H a=none
 keep:∀a o,H a=some o->a∉r->H' a=some o
 tups:∀a vs,dI K H a vs->dI K H' a vs
 fin:∀a C dx fs,H a=some (.ins C dx fs)->∃fs',H' a=some (.ins C dx fs')/\∀f,yk f->fs'.lookup f=fs.lookup f
end
section
variable{K:Φ}{H H1 H2:Hp}{r r1 r2:Y1}{h:Ev.Hh}
def Fm.refl:Fm K r r H H:=⟨λ_ _ e=>e,λ_ e=>.inl e,λ_ _ e _=>e,λ_ _ e=>e
 ,λ_ _ _ fs e=>⟨fs,e,λ_ _=>rfl⟩
 ⟩
theorem Fm.trans(a:Fm K r r1 H H1)(b:Fm K r1 r2 H1 H2):Fm K r r2 H H2 where
 pre:=λn x e=>b.pre n x (a.pre n x e)
 new:=λx e=>by
  rcases b.new x e with q|q
  .exact a.new x q
  .by_cases z:x∈r
   .exact .inl z
   .refine .inr ?_;cases w:H x with
    |none=>rfl
    |some o=>rw[a.keep x o w z]at q;exists q
 keep:=λx o e n=>by
  refine b.keep x o (a.keep x o e n) λz=>?_;rcases a.new x z with q|q
  .exact n q
  .rw[e]at q;exists q
 tups:=λx d e=>b.tups x d (a.tups x d e)
 fin:=λx C g fs e=>by
  obtain⟨c,j,k⟩:=a.fin x C g fs e;obtain⟨P5,p,y⟩:=b.fin x C g c j;exact⟨P5,p,λf z=>(y f z).trans (k f z)⟩
mutual
theorem RV.grow(f:∀(n:Nat) a,r[n]?=some a->r1[n]?=some a)(g:∀a vs,dI K H a vs->dI K H1 a vs):∀{d:Ev.D}{v:V},RV K H r d v->RV K H1 r1 d v
 |.aN,_,e=>e
 |.bl _,_,e=>e
 |.int _,_,e=>e
 |.str _,_,e=>e
 |.ref n,_,⟨a,e,z⟩=>⟨a,e,f n a z⟩
 |.tup ds,_,⟨a,vs,e,z,q⟩=>⟨a,vs,e,g a vs z,aV.grow f g q⟩
theorem aV.grow(f:∀(n:Nat) a,r[n]?=some a->r1[n]?=some a)(g:∀a vs,dI K H a vs->dI K H1 a vs):∀{ds:List Ev.D}{vs:T1},aV K H r ds vs->aV K H1 r1 ds vs
 |[],_,e=>e
 |_ :: _,_,⟨v,w,e,z,q⟩=>⟨v,w,e,RV.grow f g z,aV.grow f g q⟩
end
def RV.mono(f:Fm K r r1 H H1)(q:RV K H r d v):RV K H1 r1 d v:=q.grow f.pre f.tups
def aV.mono(f:Fm K r r1 H H1)(q:aV K H r ds vs):aV K H1 r1 ds vs:=q.grow f.pre f.tups
def aV.nil:aV K H r [] []:=by simp[aV]
def aV.cons(a:RV K H r d v)(b:aV K H r ds vs):aV K H r (d :: ds) (v :: vs):=by
 exact⟨v,vs,rfl,a,b⟩
theorem aV.length:∀{ds:List Ev.D}{vs:T1},aV K H r ds vs->vs.length=ds.length
 |[],_,e=>by subst e;rfl
 |_ :: _,_,e=>by
  obtain⟨v,w,rfl,_,q⟩:=e;simp[aV.length q]
theorem aV.get:∀{ds:List Ev.D}{vs:T1}{i:Nat}{d:Ev.D},aV K H r ds vs->ds[i]?=some d->∃v,vs[i]?=some v/\RV K H r d v
 |[],_,_,_,_,e=>by simp at e
 |_ :: _,_,0,_,h,e=>by
  obtain⟨v,w,rfl,z,q⟩:=h;simp at e;subst e;exact⟨v,by simp,z⟩
 |_ :: _,_,i+1,_,h,e=>by
  obtain⟨v,w,rfl,z,q⟩:=h;obtain⟨u,a,b⟩:=aV.get q (by simpa using e);exact⟨u,by simpa using a,b⟩
theorem aV.append:∀{ds es:List Ev.D}{vs I:T1},aV K H r ds vs->aV K H r es I->aV K H r (ds++es) (vs++I)
 |[],_,_,_,a,b=>by subst a;simpa using b
 |_ :: _,_,_,_,a,b=>by
  obtain⟨v,w,rfl,z,q⟩:=a;exact .cons z (aV.append q b)
theorem aV.take:∀{ds:List Ev.D}{vs:T1}(n:Nat),aV K H r ds vs->aV K H r (ds.take n) (vs.take n)
 |_,_,0,_=>by simp[aV]
 |[],_,_+1,a=>by subst a;simp[aV]
 |_ :: _,_,n+1,a=>by
  obtain⟨v,w,rfl,z,q⟩:=a;exact .cons z (aV.take n q)
theorem aV.drop:∀{ds:List Ev.D}{vs:T1}(n:Nat),aV K H r ds vs->aV K H r (ds.drop n) (vs.drop n)
 |_,_,0,a=>by simpa using a
 |[],_,_+1,a=>by subst a;simp[aV]
 |_ :: _,_,n+1,a=>by
  obtain⟨v,w,rfl,z,q⟩:=a;exact aV.drop n q
theorem aV.reverse:∀{ds:List Ev.D}{vs:T1},aV K H r ds vs->aV K H r ds.reverse vs.reverse
 |[],_,a=>by subst a;simp[aV]
 |_ :: _,_,a=>by
  obtain⟨v,w,rfl,z,q⟩:=a;simp only[aaT];exact(aV.reverse q).append (.cons z .nil)
theorem aV.rep(a:aV K H r ds vs):∀k:Nat,aV K H r (Ev.rep k ds) (Ev.rep k vs)
 |0=>by simp[Ev.rep,aV]
 |k+1=>by
  have h:=aV.rep a k;exact a.append h
def Fm.laid(z:H p=none):Fm K r (r++[p]) H (upd H p o) where
 pre:=λn a e=>by rw[jk (gL e).1];exact e
 new:=λa e=>by
  rcases k8 e with q|q
  .exact .inl q
  .rw[aa2]at q;subst q;exact .inr z
 keep:=λa b e _=>by rw[aQ (bH e z)];exact e
 tups:=λa c e=>by
  rcases e with (e|⟨b,e⟩)|e
  .exact .inl (.inl (by rw[aQ (bH e z)];exact e))
  .exact .inl (.inr ⟨b,by rw[aQ (bH e z)];exact e⟩)
  .exact .inr e
 fin:=λa C d fs e=>⟨fs,by rw[aQ (bH e z)];exact e,λ_ _=>rfl⟩
def Fm.tup(z:H p=none):Fm K r r H (upd H p o) where
 pre:=λn a e=>e
 new:=λa e=>.inl e
 keep:=λa b e _=>by rw[aQ (bH e z)];exact e
 tups:=(Fm.laid (r:=r) z).tups
 fin:=(Fm.laid (K:=K) (r:=r) z).fin
def rB.go(q:rB K H r h n c ds a dx fs)(f:∀(n:Nat) a,r[n]?=some a->r1[n]?=some a)(g:∀a vs,dI K H a vs->dI K H1 a vs)(hi:∀x,H a=some x->H1 a=some x)(Z:∀m k:Nat,h[m]?=some (.cD n k)->h1[m]?=some (.cD n k))(hl:∀(m:Nat) b k x,r[m]?=some b->h[m]?=some (.cD n k)->H b=some x->H1 b=some x):rB K H1 r1 h1 n c ds a dx fs where
 at_:=f _ _ q.at_
 ins:=let ⟨C,e,j⟩:=q.ins;⟨C,e,hi _ j⟩
 len:=q.len
 few:=q.few
 nd:=q.nd
 no:=q.no
 val:=λk x d z e j=>by
  obtain⟨v,p,y⟩:=q.val k x d z e j;exact⟨v,p,y.grow f g⟩
 lst:=λk x d z e j=>by
  obtain⟨F,m,b,vs,p,y,A,B,G,I⟩:=q.lst k x d z e j;exact⟨F,m,b,vs,p,y,f _ _ A,Z m k B,hl m b k _ A B G,I.grow f g⟩
 rC:=λk x d z e j=>by
  obtain⟨F,m,b,p,y,A,B,G⟩:=q.rC k x d z e j;exact⟨F,m,b,p,y,f _ _ A,Z m k B,hl m b k _ A B G⟩
def rE:Ev.O->Bool
 |.obj _ _=>true
 |.cD _ _=>true
 |_=>false
theorem OX.go(q:OX K H r h)(f:∀(n:Nat) a,r[n]?=some a->r1[n]?=some a)(g:∀a vs,dI K H a vs->dI K H1 a vs)(e1:∀(n:Nat) o,rE o=true->h1[n]?=some o->h[n]?=some o)(e2:∀m n k:Nat,h[m]?=some (.cD n k)->h1[m]?=some (.cD n k))(kp:∀(n:Nat) o a x,rE o=true->h[n]?=some o->r[n]?=some a->H a=some x->H1 a=some x)(lj:∀(m:Nat) o a,zN o=true->h1[m]?=some o->r1[m]?=some a->(∃o0,zN o0=true/\h[m]?=some o0/\r[m]?=some a)\/∀m' n k:Nat,h[m']?=some (.cD n k)->r[m']?≠some a):OX K H1 r1 h1 where
 ob:=λn c ds e=>by
  have d:=e1 n _ rfl e;obtain⟨a,X,fs,z⟩:=q.ob n c ds d;exact⟨a,X,fs,z.go f g (λx w=>kp n _ a x rfl d z.at_ w) (λm k w=>e2 m n k w) λm b k x F G I=>kp m _ b x rfl G F I⟩
 pv:=λm n k e=>by
  have d:=e1 m _ rfl e;obtain⟨a,o,j,y,A⟩:=q.pv m n k d;exact⟨a,o,f _ _ j,kp m _ a o rfl d j y,A⟩
 jp:=λm m' a n k o j y A J Y=>by
  have d:=e1 m _ rfl A;obtain⟨Z,x,p,L,_⟩:=q.pv m n k d;have B:=f _ _ p;rw[j]at B;cases B;rcases lj m' o a Y J y with ⟨o0,F,G,I⟩|w
  .exact q.jp m m' a n k o0 p I d G F
  .exact absurd p (w m n k d)
 jo:=λn M a c ds N C j y A J=>by
  have P:=e1 n _ rfl A;have Q:=e1 M _ rfl J;obtain⟨a1,_,_,p⟩:=q.ob n c ds P;obtain⟨a2,_,_,L⟩:=q.ob M N C Q;have B:=f _ _ p.at_;have W:=f _ _ L.at_;rw[j]at B;rw[y]at W;cases B;cases W;exact q.jo n M a c ds N C p.at_ L.at_ P Q
def OX.more(q:OX K H r h)(f:Fm K r r H H1)(k:∀b o,H b=some o->H1 b=some o):OX K H1 r h:=
 q.go f.pre f.tups (λ_ _ _ e=>e) (λ_ _ _ e=>e) (λ_ _ a x _ _ _ e=>k a x e) λm o a c d g=>.inl ⟨o,c,d,g⟩
def OX.push(q:OX K H r h)(I:r.length=h.length)(ho:rE o=false)(Z:∀m n k:Nat,h[m]?=some (.cD n k)->r[m]?≠some p)(f:∀a vs,dI K H a vs->dI K H1 a vs)(k:∀b x,H b=some x->H1 b=some x):OX K H1 (r++[p]) (h++[o]):=by
 have d:∀(n:Nat) x,(h++[o])[n]?=some x->h[n]?=some x\/(n=h.length/\x=o):=λn x e=>by
  by_cases g:n<h.length
  .rw[jk g]at e;exact .inl e
  .have j:=(gL e).1;simp only[aaE,abe]at j;have y:n=h.length:=by lia
   subst y;simp at e;exact .inr ⟨rfl,e.symm⟩
 refine q.go (λn a e=>by rw[jk (gL e).1];exact e) f (λn x z e=>?_) (λm n k e=>by rw[jk (gL e).1];exact e) (λ_ _ a x _ _ _ e=>k a x e) λm x a A B c=>?_
 .rcases d n x e with e|⟨_,e⟩
  .exact e
  .subst e;rw[ho]at z;exists z
 .rcases d m x B with e|⟨e,_⟩
  .rw[jk (by rw[I];exact(gL e).1)]at c;exact .inl ⟨x,A,e,c⟩
  .subst e;rw[<-I]at c;simp at c;subst c;exact .inr Z
def OX.fresh(q:OX K H r h)(I:H p=none):∀m n k:Nat,h[m]?=some (.cD n k)->r[m]?≠some p:=λm n k e z=>by
 obtain⟨a,o,b,c,_⟩:=q.pv m n k e;rw[z]at b;exists b;rw[I]at c;exists c
def m9(z:H p=none):∀b x,H b=some x->upd H p o b=some x:=λb x e=>by rw[aQ (bH e z)];exact e
def OX.wr(q:OX K H r h)(hn:h[n]?=some o)(ho:zN o=true)(h1:rE o=false)(h2:rE o2=false)(Z:r[n]?=some a)(hi:∀C dx fs,H a≠some (.ins C dx fs))(f:Fm K r r H (upd H a y)):OX K (upd H a y) r (h.set n o2):=by
 have A:=(gL hn).1;refine q.go f.pre f.tups (λm x z e=>?_) (λm i k e=>?_) (λm x b y z e g B=>?_) λm x b F j p=>?_
 .by_cases d:n=m
  .subst d;rw[WV A]at e;exists e;rw[h2]at z;exists z
  .rw[T7 d]at e;exact e
 .by_cases d:n=m
  .subst d;rw[hn]at e;exists e;exists h1
  .rw[T7 d];exact e
 .have:b≠a:=λG=>by
   subst G;cases x with
   |obj c ds=>
    obtain⟨_,dx,fs,w⟩:=q.ob m c ds e;have:=w.at_;rw[g]at this;exists this;obtain⟨C,_,I⟩:=w.ins;exact hi _ _ _ I
   |cD i k=>
    have:=q.jp m n b i k o g Z e hn ho;subst this;rw[hn]at e;exists e;exists h1
   |_=>exists z
  rw[aQ this];exact B
 .by_cases d:n=m
  .subst d;exact .inl ⟨o,ho,hn,p⟩
  .rw[T7 d]at j;exact .inl ⟨x,F,j,p⟩
theorem RO.mono(f:Fm K r r1 H H1)(q:RO K H r o a)(I:∀ds vs,o=.lst ds->H a=some (.lst vs)->H1 a=some (.lst vs))(Z:∀ob vs,H a=some (.bY ob vs)->H1 a=some (.bY ob vs)): RO K H1 r1 o a:=by
 cases o with
 |lst ds=>
  obtain⟨vs,e,z⟩:=q;exact⟨vs,I ds vs rfl e,z.mono f⟩
 |bY ds=>
  obtain⟨vs,e,z⟩:=q;refine⟨vs,?_,z.mono f⟩;rcases e with ⟨ob,e⟩|e
  .exact .inl ⟨ob,Z _ _ e⟩
  .exact .inr e
 |obj _ _=>trivial
 |cD _ _=>trivial
theorem HR.tup(hr:HR K H r h)(I:H p=none):HR K (upd H p o) r h where
 len:=hr.len
 ob:=λn ob e=>by
  obtain⟨a,b,q⟩:=hr.ob n ob e;exact⟨a,b,q.mono (Fm.tup I) (λ_ c _ z=>by rw[aQ (bH z I)];exact z) (λ_ _ z=>by rw[aQ (bH z I)];exact z)
   ⟩
 inj:=hr.inj
 ox:=hr.ox.more (.tup I) (m9 I)
theorem HR.lst(hr:HR K H r h)(Z:H p=none)(q:aV K H r ds vs):HR K (upd H p (.lst vs)) (r++[p]) (h++[.lst ds]) where
 len:=by simp[hr.len]
 ob:=λn ob e=>by
  by_cases P:n<h.length
  .rw[jk P]at e;obtain⟨a,B,z⟩:=hr.ob n ob e;exact⟨a,(Fm.laid (K:=K) (o:=.lst vs) Z).pre n a B,z.mono (Fm.laid Z) (λ_ vs _ z=>by rw[aQ (bH z Z)];exact z) (λ_ _ z=>by rw[aQ (bH z Z)];exact z)
    ⟩
  .have f:=(gL e).1;simp only[aaE,abe]at f;have C:n=h.length:=by lia
   subst C;simp at e;subst e;exact⟨p,by rw[<-hr.len];simp,vs,bU,q.mono (Fm.laid Z)⟩
 inj:=λn m a x y B f C J=>by
  have out:∀(k:Nat) z,(h++[Ev.O.lst ds])[k]?=some (.lst z)->(r++[p])[k]?=some a->(k<h.length/\r[k]?=some a/\h[k]?=some (.lst z)/\a≠p)\/(k=h.length/\a=p):=λk z g c=>by
   by_cases F:k<h.length
   .rw[jk F]at g;rw[jk (by rw[hr.len];exact F)]at c;obtain⟨b,j,Q,G,_⟩:=hr.ob k _ g;rw[c]at j;exists j;exact .inl ⟨F,c,g,bH G Z⟩
   .have j:=(gL g).1;simp only[aaE,abe]at j;have G:k=r.length:=by rw[hr.len];lia
    subst G;simp at c;exact .inr ⟨hr.len,c.symm⟩
  rcases out n x C B with ⟨L,I,W,X⟩|⟨L,I⟩
  .rcases out m y J f with ⟨A,d,M,N⟩|⟨A,d⟩
   .exact hr.inj n m a x y I d W M
   .exact absurd d X
  .rcases out m y J f with ⟨A,d,M,N⟩|⟨A,d⟩
   .exact absurd I N
   .rw[L,A]
 ox:=hr.ox.push hr.len rfl (hr.ox.fresh Z) (Fm.laid (K:=K) (r:=r) Z).tups (m9 Z)
def HR.read(hr:HR K H r h)(e:Ev.bI h n=some ds):∃a vs,r[n]?=some a/\gK K H a vs/\aV K H r ds vs:=by
 unfold Ev.bI at e;split at e
 .rename_i z
  exists e
  obtain⟨a,c,vs,b,d⟩:=hr.ob n _ z;exact⟨a,vs,c,.inl (.inl b),d⟩
 .rename_i z
  exists e
  obtain⟨a,c,vs,b,d⟩:=hr.ob n _ z;refine⟨a,vs,c,?_,d⟩;rcases b with ⟨f,b⟩|b
  .exact .inl (.inr ⟨f,b⟩)
  .exact .inr b
 ·exists e
def Fm.write(I:H a=some (.lst vs))(Z:a∈r):Fm K r r H (upd H a (.lst ws)) where
 pre:=λn b e=>e
 new:=λb e=>.inl e
 keep:=λb c e n=>by rw[aQ (λz=>n (by rw[z];exact Z))];exact e
 tups:=λb d e=>by
  rcases e with (e|⟨c,e⟩)|e
  .exact .inl (.inl (by rw[aQ (mj e I (by intro z;exists z))];exact e))
  .exact .inl (.inr ⟨c,by rw[aQ (mj e I (by intro z;exists z))];exact e⟩)
  .exact .inr e
 fin:=λb C f fs e=>⟨fs,by rw[aQ (mj e I (by intro z;exists z))];exact e,λ_ _=>rfl⟩
theorem HR.write(hr:HR K H r h)(hn:h[n]?=some (.lst ds))(Z:r[n]?=some a)(ha:H a=some (.lst vs))(q:aV K H r es ws):
  HR K (upd H a (.lst ws)) r (h.set n (.lst es)) where
 len:=by simp[hr.len]
 ob:=λm ob e=>by
  have f:=Fm.write (K:=K) (ws:=ws) ha (aaC Z);by_cases g:m=n
  .subst g;rw[WV (gL hn).1]at e
   exists e
   exact⟨a,Z,ws,bU,q.mono f⟩
  .rw[T7 (λz=>g z.symm)]at e;obtain⟨b,c,z⟩:=hr.ob m ob e;refine⟨b,c,z.mono f (λp F G d=>?_) (λI F d=>by rw[aQ (mj d ha (by intro z;exists z))];exact d)
    ⟩
   by_cases A:b=a
   .subst A;subst G;exact absurd (hr.inj m n b p ds c Z e hn) g
   .rw[aQ A];exact d
 inj:=λk m b x y c J L M=>by
  have back:∀(j:Nat) z,(h.set n (Ev.O.lst es))[j]?=some (.lst z)->∃z',h[j]?=some (.lst z'):=λj z w=>by
   by_cases B:j=n
   .subst B;exact⟨ds,hn⟩
   .rw[T7 (λz=>B z.symm)]at w;exact⟨z,w⟩
  obtain⟨N,P⟩:=back k x L;obtain⟨Q,W⟩:=back m y M;exact hr.inj k m b N Q c J P W
 ox:=hr.ox.wr hn rfl rfl rfl Z (λC X fs z=>by rw[ha]at z;cases z) (.write ha (aaC Z))
def jr(I:H p=some (.lst vs)):∀a us,dI K H a us->dI K (upd H p (.lst Z)) a us:=λb us e=>by
 rcases e with (e|⟨ob,e⟩)|e
 .exact .inl (.inl (by rw[aQ (mj e I (by intro z;exists z))];exact e))
 .exact .inl (.inr ⟨ob,by rw[aQ (mj e I (by intro z;exists z))];exact e⟩)
 .exact .inr e
def HR.other(hr:HR K H r h)(I:H p=some (.lst vs))(hn:p∉r):HR K (upd H p (.lst Z)) r h where
 len:=hr.len
 ob:=λn ob e=>by
  obtain⟨a,f,q⟩:=hr.ob n ob e;have g:a≠p:=λz=>hn (by rw[<-z];exact aaC f);refine⟨a,f,?_⟩;cases ob with
  |lst ds=>
   obtain⟨c,b,d⟩:=q;exact⟨c,by rw[aQ g];exact b,d.grow (λ_ _ z=>z) (jr I)⟩
  |bY ds=>
   obtain⟨c,b,d⟩:=q;refine⟨c,?_,d.grow (λ_ _ z=>z) (jr I)⟩;rcases b with ⟨o,b⟩|b
   .exact .inl ⟨o,by rw[aQ g];exact b⟩
   .exact .inr b
  |obj _ _=>trivial
  |cD _ _=>trivial
 inj:=hr.inj
 ox:=hr.ox.go (λ_ _ e=>e) (jr I) (λ_ _ _ e=>e) (λ_ _ _ e=>e) (λn o a x _ _ z e=>by rw[aQ (λy=>hn (by rw[<-y];exact aaC z))];exact e) λm o a j k A=>.inl ⟨o,j,k,A⟩
def Fm.other(f:Fm K r r1 H H1)(Z:H p=none)(I:H1 p=some (.lst vs)):Fm K r r1 H (upd H1 p (.lst ws)) where
 pre:=f.pre
 new:=f.new
 keep:=λa o e n=>by rw[aQ (bH e Z)];exact f.keep a o e n
 tups:=λa c e=>jr I a c (f.tups a c e)
 fin:=λa C g fs e=>by
  obtain⟨b,d,q⟩:=f.fin a C g fs e;exact⟨b,by rw[aQ (mj d I (by intro z;exists z))];exact d,q⟩
def Fm.DL(f:Fm K r r1 H H1)(I:H p=some o)(hn:p∉r):p∉r1/\H1 p=some o:=by
 refine⟨λz=>?_,f.keep p o I hn⟩;rcases f.new p z with q|q
 .exact hn q
 .rw[I]at q;exists q
def HR.known(hr:HR K H r h)(Z:H p=some (.lst vs))(hn:p∉r)(q:aV K H r ds vs):HR K H (r++[p]) (h++[.lst ds]):=by
 have pre:∀(n:Nat) a,r[n]?=some a->(r++[p])[n]?=some a:=λn a e=>by rw[jk (gL e).1];exact e
 refine⟨by simp[hr.len],λn G e=>?_,λn m a x y A b c I=>?_
  ,hr.ox.push hr.len rfl (λm _ _ _ z=>hn (aaC z)) (λ_ _ e=>e) (λ_ _ e=>e)
  ⟩
 .by_cases d:n<h.length
  .rw[jk d]at e;obtain⟨a,A,z⟩:=hr.ob n G e;refine⟨a,pre n a A,?_⟩;cases G with
   |lst ds=>obtain⟨B,b,c⟩:=z;exact⟨B,b,c.grow pre λ_ _ z=>z⟩
   |bY ds=>obtain⟨B,b,c⟩:=z;exact⟨B,b,c.grow pre λ_ _ z=>z⟩
   |obj _ _=>trivial
   |cD _ _=>trivial
  .have b:=(gL e).1;simp only[aaE,abe]at b;have c:n=h.length:=by lia
   subst c;simp at e;subst e;exact⟨p,by rw[<-hr.len];simp,vs,Z,q.grow pre λ_ _ z=>z⟩
 .have out:∀(k:Nat) z,(h++[Ev.O.lst ds])[k]?=some (.lst z)->(r++[p])[k]?=some a->(k<h.length/\r[k]?=some a/\h[k]?=some (.lst z)/\a≠p)\/(k=h.length/\a=p):=λk z C f=>by
   by_cases d:k<h.length
   .rw[jk d]at C;rw[jk (by rw[hr.len];exact d)]at f;exact .inl ⟨d,f,C,λz=>hn (by rw[<-z];exact aaC f)⟩
   .have N:=(gL C).1;simp only[aaE,abe]at N;have P:k=r.length:=by rw[hr.len];lia
    subst P;simp at f;exact .inr ⟨hr.len,f.symm⟩
  rcases out n x c A with ⟨J,F,Q,W⟩|⟨J,F⟩
  .rcases out m y I b with ⟨j,g,L,M⟩|⟨j,g⟩
   .exact hr.inj n m a x y F g Q L
   .exact absurd g W
  .rcases out m y I b with ⟨j,g,L,M⟩|⟨j,g⟩
   .exact absurd F M
   .rw[J,j]
def Fm.known(f:Fm K r r1 H H1)(z:H p=none):Fm K r (r1++[p]) H H1 where
 pre:=λn a e=>by
  have b:=f.pre n a e;rw[jk (gL b).1];exact b
 new:=λa e=>by
  rcases k8 e with q|q
  .exact f.new a q
  .rw[aa2]at q;subst q;exact .inr z
 keep:=f.keep
 tups:=f.tups
 fin:=f.fin
end
open Ev (D O Hh Fr R aJ E Es Eo It T S Ss Fl Src bN bA TY BI ME)
section
variable(K:Φ)
def Res(r:Y1)(H:Hp)(h':Hh)(d:D)(Q:VK):Prop:=∀v H' r',RV K H' r' d v->HR K H' r' h'->Fm K r r' H H'->Q v H'
structure SR(m:Θ)(H:Hp)(r:Y1)(fr:Fr)(s:L2.St):Prop where
 len:s.length=m.length
 sl:∀(j i:Nat) d,m[j]?=some i->fr[i]?=some (some d)->∃v,s[j]?=some (some v)/\RV K H r d v
inductive tJ(m:Θ)(P:aJ)(e:E)(s:L2.St)(H:Hp)(Q:VK):Prop
 |mk (r:Y1) (fr:Fr) (h:Hh) (d:D) (h':Hh) (c0:SR K m H r fr s) (c1:HR K H r h) (c2:Ev.ev P e fr h=.ok d h') (c3:Res K r H h' d Q):tJ m P e s H Q
inductive Fy(m:Θ)(P:aJ)(e:E)(s:L2.St)(H:Hp)(Q:Bool->Hp->Prop):Prop
 |mk (r:Y1) (fr:Fr) (h:Hh) (k:Bool) (h':Hh) (c0:SR K m H r fr s) (c1:HR K H r h) (c2:Ev.bB P e fr h=.ok k h') (c3:∀H' r',HR K H' r' h'->Fm K r r' H H'->Q k H'):Fy m P e s H Q
inductive P6(m:Θ)(P:aJ)(es:Es)(s:L2.St)(H:Hp)(Q:List V->Hp->Prop):Prop
 |mk (r:Y1) (fr:Fr) (h:Hh) (ds:U2) (h':Hh) (c0:SR K m H r fr s) (c1:HR K H r h) (c2:Ev.bu P es fr h=.ok ds h') (c3:∀vs H' r',aV K H' r' ds vs->HR K H' r' h'->Fm K r r' H H'->Q vs H'):P6 m P es s H Q
inductive Wi(m:Θ)(P:aJ)(e:Eo)(s:L2.St)(H:Hp)(Q:Option Int->Hp->Prop):Prop
 |mk (r:Y1) (fr:Fr) (h:Hh) (o:Option Int) (h':Hh) (c0:SR K m H r fr s) (c1:HR K H r h) (c2:Ev.jy P e fr h=.ok o h') (c3:∀H' r',HR K H' r' h'->Fm K r r' H H'->Q o H'):Wi m P e s H Q
inductive iY(f:D->D->Hh->R D)(x:V)(y:V)(H:Hp)(Q:VK):Prop
 |mk (r:Y1) (h:Hh) (a:D) (b:D) (d:D) (h':Hh) (c0:HR K H r h) (c1:RV K H r a x) (c2:RV K H r b y) (c3:f a b h=.ok d h') (c4:Res K r H h' d Q):iY f x y H Q
inductive zP(f:List D->Hh->R D)(xs:T1)(H:Hp)(Q:VK):Prop
 |mk (r:Y1) (h:Hh) (as:U2) (d:D) (h':Hh) (c0:HR K H r h) (c1:aV K H r as xs) (c2:f as h=.ok d h') (c3:Res K r H h' d Q):zP f xs H Q
inductive zQ(f:D->List D->Hh->R D)(x:V)(xs:T1)(H:Hp)(Q:VK):Prop
 |mk (r:Y1) (h:Hh) (a:D) (as:U2) (d:D) (h':Hh) (c0:HR K H r h) (c1:RV K H r a x) (c2:aV K H r as xs) (c3:f a as h=.ok d h') (c4:Res K r H h' d Q):zQ f x xs H Q
inductive P7  (x:V) (lo:Option Int) (hi:Option Int) (H:Hp) (Q:VK):Prop
 |mk (r:Y1) (h:Hh) (a:D) (d:D) (h':Hh) (c0:HR K H r h) (c1:RV K H r a x) (c2:Ev.fQ a lo hi h=.ok d h') (c3:Res K r H h' d Q):P7 x lo hi H Q
end
section
variable{K:Φ}{m:Θ}{H H':Hp}{r r':Y1}{fr:Fr}{s:L2.St}{h h':Hh}{d:D}{Q:VK}
theorem SR.mono(a:SR K m H r fr s)(f:Fm K r r' H H'):SR K m H' r' fr s:=⟨a.len,λj i d b c=>by
 obtain⟨v,q,z⟩:=a.sl j i d b c;exact⟨v,q,z.mono f⟩⟩
def Res.here(q:Res K r H h d Q)(a:RV K H r d v)(b:HR K H r h):Q v H:=q v H r a b .refl
def Res.later(q:Res K r H h' d Q)(f:Fm K r r' H H'):Res K r' H' h' d Q:=λv H2 c a b g=>q v H2 c a b (f.trans g)
theorem Res.lst(q:Res K r H h' d Q)(e:Ev.alloc ds h=.ok d h')(a:aV K H r ds vs)(b:HR K H r h):vs.length<=sizeLine/\∀p,H p=none->Q (.ref p) (upd H p (.lst vs)):=by
 unfold Ev.alloc at e;split at e
 .rename_i z
  exists e
  refine⟨by rw[a.length,<-o9];exact z,λp c=>?_⟩;exact q _ _ (r++[p]) ⟨p,rfl,by rw[<-b.len];simp⟩ (b.lst c a) (.laid c)
 ·exists e
theorem Res.tup(q:Res K r H h (.tup ds) Q)(a:aV K H r ds vs)(b:HR K H r h)(z:H p=none):Q (.ref p) (upd H p (.tup vs)):=
 q _ _ r ⟨p,vs,rfl,.of bU,a.mono (.tup z)⟩ (b.tup z) (.tup z)
end
def PE.of(h:PE X e t)(w:∀s H Q,t' s H Q->t s H Q):PE X e t':=λpins s σ H Q I q=>h pins s σ H Q I (w _ _ _ q)
def PT.of(h:PT X e t)(w:∀s H Q,t' s H Q->t s H Q):PT X e t':=λpins s σ H Q I q=>h pins s σ H Q I (w _ _ _ q)
def PW.of(h:PW X e t)(w:∀s H Q,t' s H Q->t s H Q):PW X e t':=λwh pins s σ H Q I q=>h wh pins s σ H Q I (w _ _ _ q)
def PA.of(h:PA X es t)(w:∀s H Q,t' s H Q->t s H Q):PA X es t':=λpos pins s σ H Q I q=>h pos pins s σ H Q I (w _ _ _ q)
def PO.of(h:PO X e t)(w:∀s H Q,t' s H Q->t s H Q):PO X e t':=λpins s σ H Q I q=>h pins s σ H Q I (w _ _ _ q)
structure FI where
 name:Str
 addr:Addr
 fd:FuncData
 ps:X9
def qI(K:Φ)(F:List Ev.Fn)(w n f:Nat):Sp:=λa H Q _=>∃r h ds d h',aV K H r ds a/\HR K H r h/\Ev.run F w n f ds h=.ok d h'/\Res K r H h' d Q
def BW(K:Φ)(d:D)(v:V):Prop:=∀H r,RV K H r d v
def BW.rv{K:Φ}(h:BW K d v):RV K H r d v:=h H r
structure uc where
 c:Ev.Cl
 ms:List (Str×Nat)
 ini:FI
 tp:List Ev.TP
inductive IK where
 |arg (j:Nat)|lst (js:Θ)|rC|con (v:V)
def IP(as:T1):List Nat->Option (T1)
 |[]=>some []
 |j :: r=>as[j]?.bind λv=>(IP as r).map λl=>v :: l
def rF(x C dx:Addr)(as:T1):List (Str×IK)->Hp->List (Str×V)->(Hp->Prop)->Prop
 |[],H,_,Q=>Q H
 | (f,.arg j) :: r,H,fs,Q=>∃v,as[j]?=some v/\rF x C dx as r (upd H x (.ins C dx (bV f v fs))) (bV f v fs) Q
 | (f,.lst js) :: r,H,fs,Q=>∃vs,IP as js=some vs/\vs.length<=sizeLine/\∀p,H p=none->rF x C dx as r (upd (upd H p (.lst vs)) x (.ins C dx (bV f (.ref p) fs))) (bV f (.ref p) fs) Q
 | (f,.rC) :: r,H,fs,Q=>∀p,H p=none->rF x C dx as r (upd (upd H p (.dK [])) x (.ins C dx (bV f (.ref p) fs))) (bV f (.ref p) fs) Q
 | (f,.con v) :: r,H,fs,Q=>rF x C dx as r (upd H x (.ins C dx (bV f v fs))) (bV f v fs) Q
def ng(c:Ev.Cl):Nat->List Θ->List Ev.TP->List (Str×IK)
 |k,f :: r,.a j :: t=>(aI f,.arg j) :: ng c (k+1) r t
 |k,f :: r,.t j :: t=>(aI f,.lst [j]) :: ng c (k+1) r t
 |k,f :: r,.c d :: t=>(aI f,if k<c.nv then (match d with
   |.int i=>.con (.int i)
   |_=>.con .aN)else if k<c.nl then .lst []else .rC) :: ng c (k+1) r t
 |_,_,_=>[]
def Wj(K:Φ)(o:uc)(z:Nat):Sp:=λa H Q _=>∃x C dx as,a=.ref x :: as/\as.length=z/\W.nsIn K mainGlobals (aI o.c.cn)=some (some (.ref C))/\H x=some (.ins C dx [])/\rF x C dx as (ng o.c 0 o.c.nm o.tp) H [] (Q .aN)
structure Tb where
 F:List Ev.Fn
 w:Nat
 fi:List FI
 bl:X9
 cs:List (Str×D)
 dk:List (Str×List (D×D))
 mi:List FI
 oc:List uc
def tabOf:List (D×D)->List (PyData×PyData)
 | (.str k,.str v) :: r=>(.str (aI k),.str (aI v)) :: tabOf r
 |_=>[]
structure IQ(P:Program)(w:World)(K:Φ)(mg:W1)(base:Heap)(mi:List FI)(o:uc)(C:Addr):Prop where
 ns:W.nsIn K mainGlobals (aI o.c.cn)=some (some (.ref C))
 gl:mg (aI o.c.cn)=some (.ref C)
 cl:mZ K C
 no:∀f∈o.c.nm,iy K C (aI f)
 nd:o.c.nm.Nodup
 ms:∀p∈o.ms,∃i,mi[p.2]?=some i/\Meth K C p.1 i.addr/\p.1∉o.c.nm.map aI
 mkk:Mk K C o.ini.addr
 bd:Binds K o.ini.fd o.ini.ps []
 ok:∀k,eT P w K mg base kJ (k+1) o.ini.addr o.ini.fd o.ini.ps (Wj K o (o.ini.ps.length - 1))
structure Good(G:Tb)(n:Nat)(sc:Scope)(N:X9)(df:Bool)(X:Cx):Prop where
 nm:X.N=N
 sc:X.env.scope=sc
 calm:X.calm=true
 own:df=true->∀x,X.fn x=true
 room:fJ n X.A
 xe:X.xe=λ_ _=>False
 fn:∀(f:Nat) i,G.fi[f]?=some i->X.mg i.name=some (.ref i.addr)/\W.keepIn X.K (.ref i.addr)=true/\Binds X.K i.fd i.ps []/\eT X.prog X.w X.K X.mg X.base kJ n i.addr i.fd i.ps (qI X.K G.F G.w n f)
 bl:∀x∈G.bl,X.mg x=none
 cs:∀x d,(x,d)∈G.cs->∃v u,X.mg x=some u/\RelV v u/\BW X.K d v
 dk:∀x kvs,(x,kvs)∈G.dk->∃a,X.mg x=some (.ref a)/\∀h:Heap,X.K.In h->StrTab X.prog X.w h a (tabOf kvs)
 mt:∀(f:Nat) i,G.mi[f]?=some i->W.keepIn X.K (.ref i.addr)=true/\Binds X.K i.fd i.ps []/\eT X.prog X.w X.K X.mg X.base kJ n i.addr i.fd i.ps (qI X.K G.F G.w n (G.fi.length+f))
 oc:∀o∈G.oc,∃C,IQ X.prog X.w X.K X.mg X.base G.mi o C
section
variable(G:Tb)(n:Nat)(sc:Scope)(N:X9)(df:Bool)(m:Θ)
def JE(e:E)(x:Expr):Prop:=∀X,Good G n sc N df X->PE X x (tJ X.K m (Ev.run G.F G.w n) e)
def JT(e:E)(x:Expr):Prop:=∀X,Good G n sc N df X->PT X x (Fy X.K m (Ev.run G.F G.w n) e)
def JW(e:E)(x:Expr):Prop:=∀X,Good G n sc N df X->PW X x (Fy X.K m (Ev.run G.F G.w n) e)
def JA(es:Es)(xs:Kx):Prop:=∀X,Good G n sc N df X->PA X xs (P6 X.K m (Ev.run G.F G.w n) es)
def JO(e:Eo)(x:Option Expr):Prop:=∀X,Good G n sc N df X->PO X x (Wi X.K m (Ev.run G.F G.w n) e)
end
section
variable{G:Tb}{n:Nat}{sc:Scope}{N:X9}{df:Bool}{m:Θ}{a b c:E}{xa xb:Expr}{pos:Pos}
def Good.vis(g:Good G n sc N df X)(h:sc.names.lookup x=some .local\/sc.names.lookup x=some .cell\/sc.names.lookup x=some .free):xY X.env.scope x:=by
 rw[g.sc];exact h
def Good.gl(g:Good G n sc N df X)(h:sc.names.lookup x=some .globalImplicit):Gl X x:=by
 unfold Gl Env.kindOf;rw[g.sc];exact h
def Za(j i:Nat){x:Str}(Z:m[j]?=some i:=by rfl)(hN:N[j]?=some x:=by rfl)(hv:autoParam (sc.names.lookup x=some .local\/sc.names.lookup x=some .cell\/sc.names.lookup x=some .free) L2.pv._auto_1)(hd:(x==("__debug__":Str))=false:=by decide)(I:(x==("__classdict__":Str))=false:=by decide):JE G n sc N df m (.v i) (.Name x pos):=by
 intro X g;refine PE.of (oZ (i:=j) (by rw[g.nm];exact hN) (g.vis hv) hd I) λs H Q q=>?_;obtain⟨r,k,h,d,F,sr,p,e,q⟩:=q;simp only[Ev.ev]at e;obtain⟨f,y⟩:=Ev.aH e;subst y;obtain⟨v,A,B⟩:=sr.sl j i d Z (by
  cases z:k[i]? with
  |none=>rw[z]at f;exists f
  |some o=>
   rw[z]at f;have C:o=some d:=f;rw[C])
 exact⟨v,A,q.here B p⟩
def zg{K:Φ}(hc:BW K d v):∀s H Q,tJ K m P (.c d) s H Q->tC v s H Q:=λs H Q q=>by
 obtain⟨r,g,h,j,k,sr,f,e,q⟩:=q;simp only[Ev.ev]at e
 exists e
 exact q.here hc.rv f
def P8:JE G n sc N df m (.c (.int i)) (.Constant (.int i) j pos):=λX g=>PE.of zC (zg λ_ _=>rfl)
def U6:JE G n sc N df m (.c (.bl k)) (.Constant (.bool k) j pos):=λX g=>PE.of UM (zg λ_ _=>rfl)
def P9:JE G n sc N df m (.c .aN) (.Constant .none j pos):=λX g=>PE.of Pg (zg λ_ _=>rfl)
def Qa{l:Θ}{x:Str}{j}(z:x=aI l:=by decide)(I:l.length<=sizeLine:=by decide):JE G n sc N df m (.c (.str l)) (.Constant (.str x) j pos):=
 λX g=>PE.of ES (zg λ_ _=>by subst z;exact⟨rfl,I⟩)
def Qc:JA G n sc N df m .nil []:=λX g=>PA.of iz λs H Q q=>by
 obtain⟨r,f,h,ds,j,sr,d,e,q⟩:=q;simp only[Ev.bu]at e
 exists e
 exact q [] H r .nil d .refl
def MW(ha:JE G n sc N df m a xa)(hs:JA G n sc N df m es xs)(Z:∀env:Env,qN xa xs env:=by intro _;rfl):JA G n sc N df m (.cons a es) (xa :: xs):=
 λX g=>PA.of (fk (ha X g) (hs X g) (Z _)) λs H Q q=>by
  obtain⟨r,p,h,ds,J,sr,y,e,q⟩:=q;simp only[Ev.bu]at e;obtain⟨d,x,z,e⟩:=Ev.ah e;obtain⟨f,K,A,e⟩:=Ev.ah e
  exists e
  refine⟨r,p,h,d,x,sr,y,z,λv H1 B C j f1=>?_⟩;refine⟨B,p,x,f,_,sr.mono f1,j,A,λL H2 F I k f2=>?_⟩;exact q _ H2 F (.cons (C.mono f2) I) k (f1.trans f2)
def Qd(Z:JA G n sc N df m es xs):JE G n sc N df m (.tup es) (.Tuple xs k pos):=λX g=>PE.of (Fb (Z X g)) λs H Q q=>by
 obtain⟨r,x,h,d,C,sr,y,e,q⟩:=q;simp only[Ev.ev]at e;obtain⟨ds,F,A,e⟩:=Ev.ah e;split at e
 .rename_i z
  exists e
  refine⟨r,x,h,ds,_,sr,y,A,λI H1 J j f f1=>⟨by rw[j.length,<-o9];exact z,λp B=>?_⟩⟩;exact(q.later f1).tup j f B
 ·exists e
def Qe(I:JA G n sc N df m es xs):JE G n sc N df m (.lst es) (.List xs pos):=λX g=>PE.of (vf (I X g)) λs H Q q=>by
 obtain⟨r,j,h,d,z,sr,k,e,q⟩:=q;simp only[Ev.ev]at e;obtain⟨ds,p,x,e⟩:=Ev.ah e;refine⟨r,j,h,ds,p,sr,k,x,λA H1 B y f f1=>?_⟩;exact(q.later f1).lst e y f
def vp{K:Φ}(Z:∀fr h,Ev.ev P e' fr h=(Ev.ev P a fr h).bind λx h1=>(Ev.ev P b fr h1).bind λy h2=>f x y h2):
  ∀s H Q,tJ K m P e' s H Q->E2 (iY K f) (tJ K m P a) (tJ K m P b) s H Q:=λs H Q q=>by
 obtain⟨r,fr,h,d,k,sr,p,e,q⟩:=q;rw[Z]at e;obtain⟨x,h1,z,e⟩:=Ev.ah e;obtain⟨y,h2,A,e⟩:=Ev.ah e;refine⟨r,fr,h,x,h1,sr,p,z,λv H1 B C g f1=>?_⟩;refine⟨B,fr,h1,y,h2,sr.mono f1,g,A,λu H2 F I j f2=>?_⟩;exact⟨F,h2,x,y,d,k,j,C.mono f2,I,e,q.later (f1.trans f2)⟩
def rG(ho:∀X,Good G n sc N df X->dY X (binaryOp op) (iY X.K (Ev.bO o)))(z:JE G n sc N df m a xa)(I:JE G n sc N df m b xb):JE G n sc N df m (.bin o a b) (.BinOp xa op xb pos):=
 λX g=>PE.of (US (ho X g) (z X g) (I X g)) (vp λd h=>by simp only[Ev.ev])
def g8(o:bA):D->D->Hh->R D:=λx y h=>R.of ((Ev.cop o x y h).map .bl) h
def Fz(ho:∀X,Good G n sc N df X->dY X (compareOp op) (iY X.K (g8 o)))(z:JE G n sc N df m a xa)(I:JE G n sc N df m b xb)(Z:behindInMarks op xb=false):JE G n sc N df m (.cmp o a b) (.Compare xa [op] [xb] pos):=
 λX g=>PE.of (MH (ho X g) (z X g) (I X g) Z) (vp λd h=>by simp only[Ev.ev,g8])
def pe(e:g8 o x y h=.ok d h'):∃k,Ev.cop o x y h=some k/\d=.bl k/\h'=h:=by
 obtain⟨f,rfl⟩:=Ev.aH e;cases z:Ev.cop o x y h' with
 |none=>rw[z]at f;exists f
 |some k=>rw[z]at f;exists f;exact⟨k,rfl,rfl,rfl⟩
def rJ(ho:∀X,Good G n sc N df X->dY X (compareOp op) (iY X.K (g8 o)))(Z:JE G n sc N df m a xa)(hb:JE G n sc N df m b xb)(hm:behindInMarks op xb=false):JT G n sc N df m (.cmp o a b) (.Compare xa [op] [xb] pos):=
 λX g=>PT.of (BL (ho X g) (Z X g) (hb X g) hm) λs H Q q=>by
  obtain⟨r,p,h,k,J,sr,A,e,q⟩:=q;rw[Ev.eB rfl]at e;obtain⟨d,L,z,e⟩:=Ev.ah e;have f:=z;simp only[Ev.ev]at f;obtain⟨x,M,_,f⟩:=Ev.ah f;obtain⟨y,B,_,f⟩:=Ev.ah f;obtain⟨P,W,C,Y⟩:=pe (show g8 o x y B=_ from f);subst C;cases e;refine vp (λp h=>by simp only[Ev.ev,g8]) s H _ ⟨r,p,h,.bl k,_,sr,A,z,λv H1 F I j f1=>?_⟩;exact⟨k,I,q H1 F j f1⟩
def U7{K:Φ}{P:aJ}{o p:bA}:∀s H Q,tJ K m P (.ch o p a b c) s H Q->E4 (iY K (g8 o)) (iY K (g8 p)) (tJ K m P a) (tJ K m P b) (tJ K m P c) s H Q:=λs H Q q=>by
 obtain⟨r,g,h,d,L,sr,M,e,q⟩:=q;simp only[Ev.ev]at e;obtain⟨x,C,X,e⟩:=Ev.ah e;obtain⟨y,h2,Y,e⟩:=Ev.ah e;obtain⟨k,f,j,e⟩:=Ev.ah e;obtain⟨j,Z⟩:=Ev.aH j;subst Z;refine⟨r,g,h,x,C,sr,M,X,λv H1 r1 v1 A f1=>?_⟩;refine⟨r1,g,C,y,f,sr.mono f1,A,Y,λu H2 r2 F B f2=>?_⟩;refine⟨r2,f,x,y,.bl k,f,B,v1.mono f2,F,by simp[g8,j],λw H3 r3 v3 I f3=>?_⟩;refine⟨k,v3,?_⟩;cases k with
 |false=>
  simp only[abB,acE]at e
  exists e
  exact(q.later ((f1.trans f2).trans f3)).here rfl I
 |true=>
  simp only[aa0]at e;obtain⟨z,J,e5,e⟩:=Ev.ah e;refine⟨r3,g,f,z,J,((sr.mono f1).mono f2).mono f3,I,e5,λt H4 r4 v4 yl f4=>?_⟩;exact⟨r4,J,y,z,d,L,yl,(F.mono f3).mono f4,v4,e,q.later (((f1.trans f2).trans f3).trans f4)⟩
end
section
variable{G:Tb}{n:Nat}{sc:Scope}{N:X9}{df:Bool}{m:Θ}{a b c:E}{xa xb xc:Expr}{pos:Pos}
def U8{K:Φ}{P:aJ}{I:E}{t:TE}(h:∀s H Q,tJ K m P I s H Q->t s H Q)(Z:∀fr h d h',Ev.ev P I fr h=.ok d h'->∃k,d=.bl k)(ht:∀fr h,Ev.bB P I fr h=(Ev.ev P I fr h).bind λx h1=>R.of (Ev.truthy h1 x) h1):∀s H Q,Fy K m P I s H Q->Dq t s H Q:=λs H Q q=>by
 obtain⟨r,fr,h1,k,h',sr,j,e,q⟩:=q;rw[ht]at e;obtain⟨d,A,g,e⟩:=Ev.ah e;obtain⟨B,p⟩:=Z _ _ _ _ g;subst p;simp only[Ev.truthy]at e;cases e;exact h s H _ ⟨r,fr,h1,.bl k,_,sr,j,g,λv H1 y z f f1=>⟨k,z,q H1 y f f1⟩⟩
def U9{P:aJ}{o p:bA}(fr:Fr)(h:Hh)(d:D)(h':Hh)(e:Ev.ev P (.ch o p a b c) fr h=.ok d h'):∃k,d=.bl k:=by
 simp only[Ev.ev]at e;obtain⟨x,q,r,e⟩:=Ev.ah e;obtain⟨y,A,B,e⟩:=Ev.ah e;obtain⟨k,C,F,e⟩:=Ev.ah e;split at e
 .obtain⟨z,f,H,e⟩:=Ev.ah e;obtain⟨g,_,j,_⟩:=pe (o:=p) (show g8 p y z f=_ from e);exact⟨g,j⟩
 ·exists e;exact⟨false,rfl⟩
def Va{o p:bA}{I z:CmpOp}(ho:∀X,Good G n sc N df X->dY X (compareOp I) (iY X.K (g8 o)))(Z:∀X,Good G n sc N df X->dY X (compareOp z) (iY X.K (g8 p)))(ha:JE G n sc N df m a xa)(hb:JE G n sc N df m b xb)(hc:JE G n sc N df m c xc)(hm:lastMarks [I,z] [xb,xc]=false:=by with_unfolding_all rfl):JT G n sc N df m (.ch o p a b c) (.Compare xa [I,z] [xb,xc] pos):=
 λX g=>PT.of (Ir (ho X g) (Z X g) (ha X g) (hb X g) (hc X g) hm) (U8 U7 U9 λd h=>Ev.eB rfl)
def Qf(I:JE G n sc N df m a xa):JE G n sc N df m (.neg a) (.UnaryOp .USub xa pos):=λX g=>PE.of (KL E3 (I X g)) λs H Q q=>by
 obtain⟨r,j,h,d,z,sr,k,e,q⟩:=q;simp only[Ev.ev]at e;obtain⟨x,A,p,e⟩:=Ev.ah e;split at e
 ·exists e
  exact⟨r,j,h,_,_,sr,k,p,λv H1 B y f f1=>⟨_,y,(q.later f1).here rfl f⟩⟩
 ·exists e
def Qg(I:JT G n sc N df m a xa)(Z:JE G n sc N df m b xb)(hc:JE G n sc N df m c xc):JE G n sc N df m (.fV a b c) (.IfExp xa xb xc pos):=λX g=>PE.of (Ih (I X g) (Z X g) (hc X g)) λs H Q q=>by
 obtain⟨r,j,h,d,x,sr,z,e,q⟩:=q;simp only[Ev.ev]at e;obtain⟨k,p,A,e⟩:=Ev.ah e;refine⟨r,j,h,k,p,sr,z,A,λH1 y f f1=>?_⟩;cases k with
 |true=>exact⟨y,j,p,d,x,sr.mono f1,f,e,q.later f1⟩
 |false=>exact⟨y,j,p,d,x,sr.mono f1,f,e,q.later f1⟩
def Qh(h:JW G n sc N df m a xa):JT G n sc N df m a xa:=λX g=>(h X g).pt
def Qi(z:JT G n sc N df m a xa):JW G n sc N df m a (.BoolOp .And [xa] pos):=λX g=>Mz (z X g)
def MX(z:JT G n sc N df m a xa):JW G n sc N df m a (.BoolOp .Or [xa] pos):=λX g=>ET (z X g)
def KS{rest:Kx}(I:JT G n sc N df m a xa)(Z:JW G n sc N df m b (.BoolOp .And (xb :: rest) pos)):JW G n sc N df m (.an a b) (.BoolOp .And (xa :: xb :: rest) pos):=λX g=>PW.of (Pj (I X g) (Z X g)) λs H Q q=>by
 obtain⟨r,j,h,k,z,sr,A,e,q⟩:=q;rw[Ev.IL]at e;obtain⟨p,x,B,e⟩:=Ev.ah e;refine⟨r,j,h,p,x,sr,A,B,λH1 y d f1=>?_⟩;cases p with
 |true=>exact⟨y,j,x,k,z,sr.mono f1,d,e,λH2 C f f2=>q H2 C f (f1.trans f2)⟩
 |false=>
  have F:=e
  exists F
  exact q H1 y d f1
def FA{rest:Kx}(I:JT G n sc N df m a xa)(Z:JW G n sc N df m b (.BoolOp .Or (xb :: rest) pos)):JW G n sc N df m (.orr a b) (.BoolOp .Or (xa :: xb :: rest) pos):=λX g=>PW.of (KG (I X g) (Z X g)) λs H Q q=>by
 obtain⟨r,j,h,k,z,sr,A,e,q⟩:=q;rw[Ev.IM]at e;obtain⟨p,x,B,e⟩:=Ev.ah e;refine⟨r,j,h,p,x,sr,A,B,λH1 y d f1=>?_⟩;cases p with
 |false=>exact⟨y,j,x,k,z,sr.mono f1,d,e,λH2 C f f2=>q H2 C f (f1.trans f2)⟩
 |true=>
  have F:=e
  exists F
  exact q H1 y d f1
def Vb(I:JT G n sc N df m a xa):JT G n sc N df m (.nt a) (.UnaryOp .Not xa pos):=λX g=>PT.of (EU (I X g)) λs H Q q=>by
 obtain⟨r,f,h,k,z,sr,j,e,q⟩:=q;rw[Ev.P1]at e;obtain⟨p,A,x,e⟩:=Ev.ah e
 exists e
 exact⟨r,f,h,p,_,sr,j,x,λH1 y d f1=>q H1 y d f1⟩
def Qj{K:Φ}(hr:HR K H r h)(Z:RV K H r d v)(e:Ev.truthy h d=some k):Iu K v H k:=by
 cases d with
 |aN=>exists e;rfl
 |bl x=>exists e;rfl
 |int x=>exists e;rfl
 |str x=>
  obtain⟨rfl,z⟩:=Z
  exists e
  refine⟨by exact z,?_⟩;rw[jq];cases x with
  |nil=>rfl
  |cons c l=>simp;lia
 |tup ds=>
  obtain⟨p,f,rfl,z,q⟩:=Z
  exists e
  refine .inr (.inl ⟨f,z,?_⟩);have y:=q.length;cases ds<;>cases f<;>simp_all
 |ref i=>
  obtain⟨p,rfl,z⟩:=Z;have A:Ev.truthy h (.ref i)=(Ev.bI h i).map λds=>!ds.isEmpty:=by
   first
    |rfl
    | (simp only[Ev.truthy];split<;>first|rfl | (rename_i g z;first|exact(hdd ⟨g,z⟩).elim|exact(hss ⟨g,z⟩).elim))
  rw[A]at e;simp only[ZJ]at e;obtain⟨ds,B,rfl⟩:=e;obtain⟨I,f,j,C,F⟩:=hr.read B;rw[z]at j;exists j;refine .inl ⟨f,C,?_⟩;have y:=F.length;cases ds<;>cases f<;>simp_all
def Qk(I:JE G n sc N df m a xa)(Z:Ev.leaf a=true:=by rfl)(hx:∀(env:Env) whole,isTrue xa env whole=(do let v <-whole;standAt xa.pos;holding [v] (truthy v)):=by intro _ _;rfl):JT G n sc N df m a xa:=λX g=>PT.of (zF (I X g) (hx _)) λs H Q q=>by
 obtain⟨r,j,h,k,A,sr,p,e,q⟩:=q;rw[Ev.eB Z]at e;obtain⟨d,B,x,e⟩:=Ev.ah e;obtain⟨e,rfl⟩:=Ev.aH e;refine⟨r,j,h,d,_,sr,p,x,λv H1 y z f f1=>⟨k,Qj f z e,q H1 y f f1⟩⟩
def Ql:D->D->Hh->R D:=λx y h=>R.of (Ev.fy x y h) h
def Vc(ho:∀X,Good G n sc N df X->BO X (iY X.K Ql))(z:JE G n sc N df m a xa)(I:JE G n sc N df m b xb)(Z:wQ xb:=by intro _ _;rfl):JE G n sc N df m (.ix a b) (.Subscript xa xb pos):=
 λX g=>PE.of (KP (ho X g) (z X g) (I X g) Z) (vp λd h=>by simp only[Ev.ev,Ql])
def Vd:JO G n sc N df m .no none:=λX g=>PO.of MO λs H Q q=>by
 obtain⟨r,f,h,o,j,sr,d,e,q⟩:=q;simp only[Ev.jy]at e
 exists e
 exact q H r d .refl
def Qm(I:JE G n sc N df m a xa):JO G n sc N df m (.yes a) (some xa):=λX g=>PO.of (MP (I X g)) λs H Q q=>by
 obtain⟨r,j,h,o,z,sr,k,e,q⟩:=q;simp only[Ev.jy]at e;obtain⟨d,A,p,e⟩:=Ev.ah e;obtain⟨e,rfl⟩:=Ev.aH e;cases d with
 |int i=>
  exists e
  exact⟨r,j,h,.int i,_,sr,k,p,λv H1 x y f f1=>⟨i,y,q H1 x f f1⟩⟩
 |_=>exists e
def Ve{lo hi:Eo}(ho:∀X,Good G n sc N df X->m6 X (P7 X.K))(Z:JE G n sc N df m a xa)(hl:JO G n sc N df m lo xl)(hu:JO G n sc N df m hi xh):JE G n sc N df m (.sl a lo hi) (.Subscript xa (.Slice xl xh none p2) pos):=
 λX g=>PE.of (IC (ho X g) (Z X g) (hl X g) (hu X g)) λs H Q q=>by
  obtain⟨r,f,h,d,A,sr,B,e,q⟩:=q;simp only[Ev.ev]at e;obtain⟨x,p,C,e⟩:=Ev.ah e;obtain⟨l,y,F,e⟩:=Ev.ah e;obtain⟨u,z,I,e⟩:=Ev.ah e;refine⟨r,f,h,x,p,sr,B,C,λv H1 J L j f1=>?_⟩;refine⟨J,f,p,l,y,sr.mono f1,j,F,λH2 M k f2=>?_⟩;refine⟨M,f,y,u,z,(sr.mono f1).mono f2,k,I,λH3 P W f3=>?_⟩;exact⟨P,z,x,d,A,W,(L.mono f2).mono f3,e,q.later ((f1.trans f2).trans f3)⟩
def MY{K:Φ}(I:∀fr h,Ev.ev P e' fr h=(Ev.bu P es fr h).bind f):
  ∀s H Q,tJ K m P e' s H Q->PK (zP K f) (P6 K m P es) s H Q:=λs H Q q=>by
 obtain⟨r,fr,h,d,k,sr,p,e,q⟩:=q;rw[I]at e;obtain⟨ds,j,x,e⟩:=Ev.ah e;exact⟨r,fr,h,ds,j,sr,p,x,λA H1 y z g f1=>⟨y,j,ds,d,k,g,z,e,q.later f1⟩⟩
def zh{k:BI}{es:Es}{x:Str}{id:String}{z:Expr}{xs:Kx}{p:Pos}(hc:∀X,Good G n sc N df X->gG X (.builtin id) (zP X.K (Ev.cZ k)))(hs:JA G n sc N df m es (z :: xs))(hb:x∈G.bl:=by decide)(hg:sc.names.lookup x=some .globalImplicit:=by rfl)(hv:bootBuiltins x=some (.builtin id))(hn:x≠"__name__" :=by decide)(hd:(x==("__debug__":Str))=false:=by decide)(I:∀env:Env,qN z xs env:=by intro _;rfl)(Z:∀env:Env,qW pos xs env:=by intro _;rfl):
  JE G n sc N df m (.bi k es) (.Call (.Name x p) (z :: xs) [] pos):=
 λX g=>PE.of (uC (hc X g) (g.gl hg) (g.bl x hb) hv (hs X g) hn hd (I _) (Z _)) (MY λd h=>by simp only[Ev.ev])
def Vf{f:Nat}{i:FI}{es:Es}{Z:Expr}{xs:Kx}{p:Pos}(hf:G.fi[f]?=some i)(hs:JA G n sc N df m es (Z :: xs))(hg:sc.names.lookup i.name=some .globalImplicit:=by rfl)(hd:(i.name==("__debug__":Str))=false:=by decide)(hst:∀env:Env,qN Z xs env:=by intro _;rfl)(hpl:∀env:Env,qW pos xs env:=by intro _;rfl):
  JE G n sc N df m (.cl f es) (.Call (.Name i.name p) (Z :: xs) [] pos):=λX g=>by
 obtain⟨x,y,z,A⟩:=g.fn f i hf;refine PE.of (wK A g.room (g.gl hg) x y z .nil zf (hs X g) hd (hst _) (hpl _)) λs H Q q=>?_;obtain⟨r,B,h,d,C,sr,F,e,q⟩:=q;simp only[Ev.ev]at e;obtain⟨ds,k,I,e⟩:=Ev.ah e;refine⟨r,B,h,ds,k,sr,F,I,λL H1 J K j f1=>?_⟩;exact⟨J,k,ds,d,C,by rw[aaJ];exact K,j,e,q.later f1⟩
def IS:ME->String
 |.join=>"str"
 |_=>"list"
def FD{K:Φ}(hr:HR K H r h)(I:RV K H r d v)(e:Ev.BU k d h=true)(Z:ty=IS k):Fe K ty v H:=by
 subst Z;have lst:∀i,d=.ref i->(Ev.bI h i).isSome=true->Fe K "list" v H:=λi g j=>by
  subst g;obtain⟨ds,q⟩:=gN j;obtain⟨p,x,y,z,A⟩:=hr.read q;obtain⟨B,rfl,f⟩:=I;rw[y]at f;exists f;exact .inl ⟨rfl,x,z⟩
 cases k with
 |join=>
  cases d with
  |str l=>obtain⟨rfl,_⟩:=I;rfl
  |_=>exists e
 |append=>cases d with|ref i=>exact lst i rfl e|_=>exists e
 |extend=>cases d with|ref i=>exact lst i rfl e|_=>exists e
 |pop=>cases d with|ref i=>exact lst i rfl e|_=>exists e
def DM{k:ME}{es:Es}{e0:Expr}{xs:Kx}{name:Str}{Z:Pos}{ty id:String}(pa:PlainAttrs ty)(slot:Slot ty name id)(hty:typeOf (.builtin id)=pure (.type "method_descriptor"))(hm:∀X,Good G n sc N df X->yh X id (zQ X.K (Ev.gM k)))(ht:ty=IS k)(ha:JE G n sc N df m a xa)(hs:JA G n sc N df m es (e0 :: xs))(hbase:∀env:Env,q3 xa name env:=by intro _;rfl)(hfew:∀env:Env,((backTo pos (starEach (e0 :: xs) env)).all (λx=>!x.1)&&(backToKw pos (keywordEach [] env)).all (λx=>x.1.isSome)
   &&decide ((e0 :: xs).length+([]:List Keyword).length+(if ([]:List Keyword).isEmpty then 0 else 1)<30))=true:=by intro _;rfl)(hline:(Z.endLine==pos.line)=true:=by rfl)(hst:∀env:Env,qN e0 xs env:=by intro _;rfl)(hpl:∀env:Env,qW pos xs env:=by intro _;rfl):
  JE G n sc N df m (.me k a es) (.Call (.Attribute xa name Z) (e0 :: xs) [] pos):=λX g=>
 PE.of (DB pa slot hty (hm X g) (ha X g) (hs X g) (hbase _) (hfew _) hline (hst _) (hpl _)) λs H Q q=>by
  obtain⟨r,p,h,d,B,sr,C,e,q⟩:=q;simp only[Ev.ev]at e;obtain⟨x,y,F,e⟩:=Ev.ah e;split at e
  .rename_i I;obtain⟨ds,z,J,e⟩:=Ev.ah e;refine⟨r,p,h,x,y,sr,C,F,λv H1 L A f f1=>⟨FD f A I ht,?_⟩⟩;refine⟨L,p,y,ds,z,sr.mono f1,f,J,λW H2 M P j f2=>?_⟩;exact⟨M,z,x,ds,d,B,j,A.mono f2,P,e,q.later (f1.trans f2)⟩
  ·exists e
def Qn{k:ME}{name:Str}{I:Pos}{ty id:String}(pa:PlainAttrs ty)(slot:Slot ty name id)(hty:typeOf (.builtin id)=pure (.type "method_descriptor"))(hm:∀X,Good G n sc N df X->yh X id (zQ X.K (Ev.gM k)))(ht:ty=IS k)(ha:JE G n sc N df m a xa)(Z:∀env:Env,q3 xa name env:=by intro _;rfl)(hline:(I.endLine==pos.line)=true:=by rfl):
  JE G n sc N df m (.me k a .nil) (.Call (.Attribute xa name I) [] [] pos):=λX g=>
 PE.of (Fi pa slot hty (hm X g) (ha X g) (Z _) hline) λs H Q q=>by
  obtain⟨r,y,h,d,z,sr,A,e,q⟩:=q;simp only[Ev.ev]at e;obtain⟨x,j,B,e⟩:=Ev.ah e;split at e
  .rename_i C;simp only[Ev.bu,Ev.ak]at e;refine⟨r,y,h,x,j,sr,A,B,λv H1 F p f f1=>⟨FD f p C ht,?_⟩⟩;exact⟨F,j,x,[],d,z,f,p,.nil,e,q.later f1⟩
  ·exists e
end
end Sm
namespace Sm
open PySem PySem.Spec PyProof.Rows L2
open Ev (D O Hh Fr R aJ E Es Eo T S Ss Fl Src bN bA TY BI ME)
def wX(K:Φ)(z:Y1)(I:Hp)(s:Src)(J:L2.It):Prop:=∀(i:Nat) H1 r1 h1,HR K H1 r1 h1->Fm K z r1 I H1->Ev.stays h1 s.2=true->
 (∀d,s.1[i]?=some d->J.go i H1/\∀x H2,J.KI i H1 x H2->∃r2,RV K H2 r2 d x/\HR K H2 r2 h1/\Fm K r1 r2 H1 H2)/\(s.1.length<=i->J.stop i H1)
inductive Wk(K:Φ)(m:Θ)(P:aJ)(it:Ev.It)(s:L2.St)(H:Hp)(Rr:L2.It->Hp->Prop):Prop
 |mk (r:Y1) (fr:Fr) (h:Hh) (src:Src) (h':Hh) (c0:SR K m H r fr s) (c1:HR K H r h) (c2:Ev.fc P it fr h=.ok src h') (c3:∀J H' r',HR K H' r' h'->Fm K r r' H H'->wX K r' H' src J->Rr J H'):Wk K m P it s H Rr
def JI(G:Tb)(n:Nat)(sc:Scope)(N:X9)(df:Bool)(m:Θ)(it:Ev.It)(tg x:Expr):Prop:=∀X,Good G n sc N df X->PI X tg x (Wk X.K m (Ev.run G.F G.w n) it)
def KU(z:Str):L2.It:=⟨λi _=>i<z.length,λi H x H'=>H'=H/\∃c,z.cps[i]?=some c/\x=.str ⟨#[c]⟩,λi _=>z.length<=i⟩
def Qo{E:Ξ}(z:Q () s):wpAny M A (letOwnedTupleGo tg it (.str x t)) Q E s:=by
 cases tg<;>first
  |exact ZM z
  | (cases it<;>exact ZM z)
def zR{K:Φ}(z:Str)(t:Tok)(it:Addr)(ty:String)(Z:ty = "str_ascii_iterator" \/ty = "str_iterator"):
  Turn P w K tg (KU z) [it] it (λi h=>h.IsStrIter it ty z t i) where
 mem:=by simp
 obj:=λi h a b f=>by
  have e:b=it:=by simpa using f
  subst e;obtain⟨o,e,c,d⟩:=a;exact⟨o,e,λv z=>by rw[d]at z;exists z⟩
 keep:=λi h p a k=>by
  obtain⟨o,e,c,d⟩:=a;exact⟨o,k it (by simp) o e,c,d⟩
 item:=by
  intro X q r x j i g s σ H E I hf a hg;subst q r x;obtain⟨f0,f1,f2,f3,f4,f5⟩:=hf it (by simp);have W:Walks X.prog X.w X.A it [it] [it] z.cps.size (SignAt z) (λi h=>h.IsStrIter it ty z t i):=by
   rcases Z with e|e
   .subst e;exact Walks.strAscii (I.ok.hd j) it z t
   .subst e;exact Walks.strWide (I.ok.hd j) it z t
  refine W.item i s _ _ hg a λv p tk F y G=>?_;obtain⟨c,u,B,rfl⟩:=F;have I1:Inv X g σ H { s with heap:=p,toks:=tk }:=I.turned (λb o f e=>G b o (by simpa using f) e) f0 f1 f3 f4 f5;exact⟨_,rfl,Qo ⟨.str ⟨#[c]⟩,H,I1,⟨u,rfl⟩,⟨rfl,c,B,rfl⟩,y,λb f=>(hf b f).1⟩⟩
 done:=by
  intro X q r x j i g s σ H E I hf a hg;subst q r x;obtain⟨f0,f1,f2,f3,f4,f5⟩:=hf it (by simp);rcases Z with e|e
  .subst e;exact wpAny_pyNext_ascii_end (I.ok.hd j) a (by simpa[Str.length,KU]using hg) λp C=>⟨rfl,I.turned (t':=s.toks) (λb o f e=>C b o f e) f0 f1 f3 f4 f5⟩
  .subst e;exact wpAny_pyNext_wide_end (I.ok.hd j) a (by simpa[Str.length,KU]using hg) λp C=>⟨rfl,I.turned (t':=s.toks) (λb o f e=>C b o f e) f0 f1 f3 f4 f5⟩
 self:=λ_ _ _ _ _ a h=>by
  rcases Z with e|e
  .subst e;exact wpAny_pyIter_striter_ascii a h
  .subst e;exact wpAny_pyIter_striter_wide a h
def KW(K:Φ)(x:V)(H:Hp)(Rr:L2.It->Hp->Prop):Prop:=
 (∃a xs,x=.ref a/\gK K H a xs/\Rr (Wb K a) H)\/(∃a xs,x=.ref a/\dI K H a xs/\Rr (Wd K a) H)\/∃z,x=.str z/\Rr (KU z) H
def Qp(Z:PE X l tl)(hw:∀s H Rr,wi s H Rr->tl s H λx H1=>KW X.K x H1 Rr):PI X tg l wi:=by
 intro c s σ H Rr I h;refine bx (Z c s σ H _ I (hw _ _ _ h)) λv s1 zr=>?_;obtain⟨x,H1,I1,g,k⟩:=zr;have f:∀(o:Obj) b,b∈[s1.heap.objs.size]->j9 X c H1 b:=λo b r=>by
  have e:b=s1.heap.objs.size:=by simpa using r
  subst e;exact I1.Im (aaB _) (I1.hok.fresh (aaB _))
 rcases k with ⟨a,xs,rfl,j,q⟩|⟨a,xs,rfl,j,q⟩|⟨z,rfl,q⟩
 .cases g;obtain⟨d,rv,p,hz⟩:=I1.list j;refine wpAny_pyIter_list p.isList ?_;exact⟨s1.heap.objs.size,[s1.heap.objs.size],_,_,H1,rfl,I1.kept λb o e=>aaa _ e,EY a _,⟨_,aaQ _ rfl,rfl,rfl⟩,f default,q⟩
 .cases g;obtain⟨d,rv,p,hz⟩:=I1.tuple j;refine wpAny_pyIter_tuple (show s1.heap.IsTuple a d.toArray from p) ?_;exact⟨s1.heap.objs.size,[s1.heap.objs.size],_,_,H1,rfl,I1.kept λb o e=>aaa _ e,Dm a _,⟨_,aaQ _ rfl,rfl,rfl⟩,f default,q⟩
 .obtain⟨t,rfl⟩:=g;cases ha:z.cps.all (· < 128)
  .refine wpAny_pyIter_wide ha ?_;exact⟨s1.heap.objs.size,[s1.heap.objs.size],_,_,H1,rfl,I1.kept λb o e=>aaa _ e,zR z t _ _ (.inr rfl),⟨_,aaQ _ rfl,rfl,rfl⟩,f default,q⟩
  .refine wpAny_pyIter_ascii ha ?_;exact⟨s1.heap.objs.size,[s1.heap.objs.size],_,_,H1,rfl,I1.kept λb o e=>aaa _ e,zR z t _ _ (.inl rfl),⟨_,aaQ _ rfl,rfl,rfl⟩,f default,q⟩
def FE(e:Ev.stays h [(n,ds)]=true):Ev.bI h n=some ds:=by
 simp only[Ev.stays,Bool.and_true]at e;split at e
 .rename_i a q;rw[q,(Ev.yj _ _).mp e]
 ·exists e
def MZ{K:Φ}(hr:HR K H r h)(v1:RV K H r d v)(e:Ev.gZ h d=some src)(q:∀J,wX K r H src J->Rr J H):KW K v H Rr:=by
 cases d with
 |tup ds=>
  obtain⟨a,j,rfl,z,w⟩:=v1
  exists e
  refine .inr (.inl ⟨a,j,rfl,z,q _ λi H1 p L b f1 C=>⟨λM f=>?_,λA=>?_⟩⟩)
  .obtain⟨u,B,g⟩:=w.get f;refine⟨⟨j,u,f1.tups _ _ z,B⟩,λx H2 y=>?_⟩;obtain⟨rfl,y⟩:=y;have:=y j (f1.tups _ _ z);rw[B]at this;exists this;exact⟨p,g.mono f1,b,.refl⟩
  .exact⟨j,f1.tups _ _ z,by rw[w.length];exact A⟩
 |str l=>
  obtain⟨rfl,z⟩:=v1
  exists e
  refine .inr (.inr ⟨_,rfl,q _ λi H1 p L b f1 C=>⟨λM f=>?_,λA=>?_⟩⟩)
  .rw[aaU]at f;cases g:l[i]? with
   |none=>rw[g]at f;exists f
   |some c=>
    rw[g]at f
    exists f
    refine⟨by exact(gL g).1,λx H2 y=>?_⟩;obtain⟨rfl,c',N,rfl⟩:=y;have F:(aI l).cps[i]?=some c:=by simp[aI,g]
    rw[F]at N;exists N;exact⟨p,⟨rfl,by show 1<=sizeLine;decide⟩,b,.refl⟩
  .show(aI l).length<=i;rw[jq];simpa using A
 |ref k=>
  simp only[RV]at v1;obtain⟨a,rfl,z⟩:=v1;simp only[Ev.gZ,ZJ]at e;obtain⟨ds,B,rfl⟩:=e;obtain⟨Y,j,g,F,e4⟩:=hr.read B;rw[z]at g;cases g;refine .inl ⟨a,j,rfl,F,q _ λi H1 p L b f1 C=>?_⟩;obtain⟨Y,G,P,I,Q⟩:=b.read (FE C);rw[f1.pre _ _ z]at P;exists P;refine⟨λM f=>?_,λA=>⟨G,I,by rw[Q.length];exact A⟩⟩;obtain⟨u,X,Z⟩:=Q.get f;refine⟨⟨G,u,I,X⟩,λx H2 y=>?_⟩;obtain⟨rfl,y⟩:=y;have:=y G I;rw[X]at this;exists this;exact⟨p,Z,b,.refl⟩
 |_=>exists e
section
variable{G:Tb}{n:Nat}{sc:Scope}{N:X9}{df:Bool}{m:Θ}{a b:E}{xa tg:Expr}{pos:Pos}
def Qq(I:JE G n sc N df m a xa):JI G n sc N df m (.seq a) tg xa:=λX g=>Qp (I X g) λs H Rr q=>by
 obtain⟨r,f,h,src,z,sr,j,e,q⟩:=q;simp only[Ev.fc]at e;obtain⟨d,A,k,e⟩:=Ev.ah e;obtain⟨e,rfl⟩:=Ev.aH e;refine⟨r,f,h,d,_,sr,j,k,λv H1 p x c f1=>?_⟩;exact MZ c x e λJ y=>q J H1 p c f1 y
def PI.of(h:PI X tg l t)(w:∀s H Q,t' s H Q->t s H Q):PI X tg l t':=λpins s σ H Q I q=>h pins s σ H Q I (w _ _ _ q)
def Qs{K:Φ}(lo:Int)(k:Nat):wX K r H (Ev.range lo k,[]) (KJ lo k):=λi H1 g p c f1 q=>by
 refine⟨λd e=>?_,λz=>?_⟩
 .simp only[Ev.range,aaU]at e;cases e2:(List.range k)[i]? with
  |none=>rw[e2]at e;exists e
  |some j=>
   rw[e2]at e
   exists e
   have f:i<k:=by simpa using (gL e2).1
   have h:j=i:=by
    rw[abM f]at e2;exact(abi e2).symm
   subst h;refine⟨f,λx H2 y=>?_⟩;obtain⟨rfl,rfl⟩:=y;exact⟨g,rfl,c,.refl⟩
 .have:(Ev.range lo k).length=k:=by simp[Ev.range]
  show k<=i;lia
def M4{I:E}{p:Pos}(hs:JA G n sc N df m (.cons I .nil) [xa])(hg:sc.names.lookup ("range":Str)=some .globalImplicit:=by rfl)(hb:("range":Str)∈G.bl:=by decide)(Z:∀env:Env,starEach [xa] env=[(false,eval xa env)]:=by intro _;rfl):JI G n sc N df m (.kI (.cons I .nil)) tg (.Call (.Name "range" p) [xa] [] pos):=λX g=>
 PI.of (EZ (g.gl hg) (g.bl _ hb) (hs X g) (Z _)) λs H Rr q=>by
  obtain⟨r,x,h,src,A,sr,y,e,q⟩:=q;simp only[Ev.fc]at e;obtain⟨ds,B,I,e⟩:=Ev.ah e;obtain⟨e,rfl⟩:=Ev.aH e;refine⟨r,x,h,ds,_,sr,y,I,λC H1 z f c f1=>?_⟩;unfold Ev.gH at e;split at e
  .rename_i j;split at e
   .rename_i k
    exists e
    simp only[aV,RV]at f;obtain⟨v,w,rfl,rfl,rfl⟩:=f;exact⟨_,rfl,k.1,k.2,q _ H1 z c f1 (Qs 0 _)⟩
   ·exists e
  .exfalso;simp only[Ev.bu]at I;obtain⟨d,_,_,I⟩:=Ev.ah I;simp only[Ev.ak]at I;cases I
  ·exists e
inductive gJ(K:Φ)(m:Θ)(t:T)(v:V)(s:L2.St)(H:Hp)(Q:L2.St->Hp->Prop):Prop
 |mk (r:Y1) (fr:Fr) (h:Hh) (d:D) (aj:Fr) (c0:SR K m H r fr s) (c1:HR K H r h) (c2:RV K H r d v) (c3:Ev.cC t d fr=some aj) (c4:∀s',SR K m H r aj s'->Q s' H):gJ K m t v s H Q
def JG(G:Tb)(n:Nat)(sc:Scope)(N:X9)(df:Bool)(m:Θ)(t:T)(x:Expr):Prop:=∀X,Good G n sc N df X->PG X x (gJ X.K m t)
def PG.of(h:PG X e t)(w:∀v s H Q,t' v s H Q->t v s H Q):PG X e t':=λpins s σ H v u Q I r q=>h pins s σ H v u Q I r (w _ _ _ _ q)
theorem SR.set{K:Φ}(sr:SR K m H r fr s)(Z:m.Nodup)(I:m[j]?=some i)(v1:RV K H r d v):SR K m H r (fr.set i (some d)) (s.set j (some v)):=by
 refine⟨by simp[sr.len],λk f p e c=>?_⟩;by_cases g:f=i
 .subst g;have:=FF Z e I;subst this;have h:f<fr.length:=by
   have:=(gL c).1;simpa using this
  rw[WV h]at c;cases c;refine⟨v,WV ?_,v1⟩;rw[sr.len];exact(gL I).1
 .rw[T7 (λz=>g z.symm)]at c;obtain⟨u,q,x⟩:=sr.sl k f p e c;refine⟨u,?_,x⟩;rw[T7]
  .exact q
  .intro z;subst z;rw[I]at e;exists e;exact g rfl
where
 FF {l:Θ} (hl:l.Nodup) {i j:Nat} {x:Nat} (a:l[i]?=some x) (b:l[j]?=some x):i=j:=by
  have ha:=(gL a)
  have hb:=(gL b)
  obtain⟨h1,e1⟩:=ha;obtain⟨h2,e2⟩:=hb;exact(List.getElem_inj hl).mp (e1.trans e2.symm)
def Good.loc(g:Good G n sc N df X)(h:sc.names.lookup x=some .local\/(df=true/\sc.names.lookup x=some .cell)):Loc X.env.scope x/\(X.fn x=true\/X.env.scope.names.lookup x=some .local):=by
 rw[show Loc X.env.scope x↔Loc sc x by rw[g.sc],g.sc];rcases h with h|⟨c,h⟩
 .exact⟨.inl h,.inr h⟩
 .exact⟨.inr h,.inl (g.own c x)⟩
def Qt(j i:Nat){x:Str}(I:m.Nodup)(Z:N.Nodup)(hj:m[j]?=some i:=by rfl)(ym:N[j]?=some x:=by rfl)(hl:sc.names.lookup x=some .local\/(df=true/\sc.names.lookup x=some .cell):=by first|exact Or.inl rfl|exact Or.inr ⟨rfl,rfl⟩):JG G n sc N df m (.one i) (.Name x pos):=λX g=>by
 obtain⟨c,f⟩:=g.loc hl;refine PG.of (BJ (i:=j) (by rw[g.nm];exact Z) (by rw[g.nm];exact ym) c f) λv s H Q q=>?_;obtain⟨r,p,h,d,y,sr,z,k,e,q⟩:=q
 exists e
 exact q _ (sr.set I hj k)
inductive Wl(K:Φ)(m:Θ)(l:Θ)(vs:T1)(s:L2.St)(H:Hp)(Q:L2.St->Hp->Prop):Prop
 |mk (r:Y1) (fr:Fr) (h:Hh) (ds:U2) (aj:Fr) (c0:SR K m H r fr s) (c1:HR K H r h) (c2:aV K H r ds vs) (c3:Ev.dJ l ds fr=some aj) (c4:∀s',SR K m H r aj s'->Q s' H):Wl K m l vs s H Q
def yo(G:Tb)(n:Nat)(sc:Scope)(N:X9)(df:Bool)(m:Θ)(l:Θ)(xs:Kx):Prop:=∀X,Good G n sc N df X->t7 X xs (Wl X.K m l)
def t7.of(h:t7 X e t)(w:∀v s H Q,t' v s H Q->t v s H Q):t7 X e t':=λpins s σ H v u Q I r q=>h pins s σ H v u Q I r (w _ _ _ _ q)
def M5:yo G n sc N df m [] []:=λX g=>t7.of MB λc s H Q q=>by
 obtain⟨r,d,h,ds,f,sr,j,k,e,q⟩:=q;cases ds with
 |nil=>exists e;exact⟨rfl,q _ sr⟩
 |cons _ _=>exists e
def IT(j i:Nat){x:Str}{l:Θ}{xs:Kx}(Z:m.Nodup)(hN:N.Nodup)(hs:yo G n sc N df m l xs)(hj:m[j]?=some i:=by rfl)(ym:N[j]?=some x:=by rfl)(hl:sc.names.lookup x=some .local\/(df=true/\sc.names.lookup x=some .cell):=by first|exact Or.inl rfl|exact Or.inr ⟨rfl,rfl⟩)(I:∀env:Env,(assignEach (.Name x pos :: xs) env).map (·.2)=assign (.Name x pos) env :: (assignEach xs env).map (·.2):=by intro _;rfl):yo G n sc N df m (i :: l) (.Name x pos :: xs):=λX g=>by
 obtain⟨f,k⟩:=g.loc hl;refine t7.of (Ik (BJ (i:=j) (by rw[g.nm];exact hN) (by rw[g.nm];exact ym) f k) (hs X g) (I _)) λB s H Q q=>?_;obtain⟨r,C,h,ds,p,sr,y,c,e,q⟩:=q;cases ds with
 |nil=>exists e
 |cons d ds=>
  simp only[aV]at c;obtain⟨v,w,rfl,z,A⟩:=c;exact⟨v,w,rfl,r,_,h,ds,p,sr.set Z hj z,y,A,e,q⟩
def M6{l:Θ}{xs:Kx}{k:Nat}(Z:yo G n sc N df m l xs)(hn:∀env:Env,(assignEach xs env).length=l.length:=by intro _;rfl)(I:∀env:Env,(assignEach xs env).findIdx? (·.1)=none:=by intro _;rfl):
  JG G n sc N df m (.many l) (.Tuple xs k pos):=λX g=>PG.of (Pk (n:=l.length) g.calm (Z X g) (hn _) (I _)) λv s H Q q=>by
 obtain⟨r,c,h,d,f,sr,y,x,e,q⟩:=q;cases d with
 |tup ds=>
  simp only[RV]at x;obtain⟨p,A,rfl,z,w⟩:=x;have j:∀(l:Θ) (ds:U2) c f,Ev.dJ l ds c=some f->ds.length=l.length:=by
   intro l;induction l with
   |nil=>intro ds c f e;cases ds with|nil=>rfl|cons _ _=>exists e
   |cons i l B=>intro ds c f e;cases ds with|nil=>exists e|cons d ds=>simp[B ds _ _ e]
  exact⟨p,A,rfl,z,by rw[w.length];exact j _ _ _ _ e,r,c,h,ds,f,sr,y,w,e,q⟩
 |_=>exists e
end
def Fin(K:Φ)(m:Θ)(r:Y1)(H:Hp)(h':Hh)(fl:Fl)(aj:Fr)(Q:Ends):Prop:=match fl with
 |.nx=>∀s' H' r',SR K m H' r' aj s'->HR K H' r' h'->Fm K r r' H H'->Q.nx s' H'
 |.bk=>∀s' H' r',SR K m H' r' aj s'->HR K H' r' h'->Fm K r r' H H'->Q.bk s' H'
 |.ct=>∀s' H' r',SR K m H' r' aj s'->HR K H' r' h'->Fm K r r' H H'->Q.ct s' H'
 |.ret d=>Res K r H h' d Q.rt
theorem Fin.later{K:Φ}(q:Fin K m r H h' fl aj Q)(f:Fm K r r' H H'):Fin K m r' H' h' fl aj Q:=by
 cases fl with
 |nx=>exact λs2 H2 c a b g=>q s2 H2 c a b (f.trans g)
 |bk=>exact λs2 H2 c a b g=>q s2 H2 c a b (f.trans g)
 |ct=>exact λs2 H2 c a b g=>q s2 H2 c a b (f.trans g)
 |ret d=>exact Res.later q f
inductive Wm(K:Φ)(m:Θ)(P:aJ)(w:Nat)(st:S)(Q:Ends)(s:L2.St)(H:Hp):Prop
 |mk (r:Y1) (fr:Fr) (h:Hh) (fl:Fl) (aj:Fr) (h':Hh) (c0:SR K m H r fr s) (c1:HR K H r h) (c2:Ev.ex P w st fr h=.ok (fl,aj) h') (c3:Fin K m r H h' fl aj Q):Wm K m P w st Q s H
inductive pY(K:Φ)(m:Θ)(P:aJ)(w:Nat)(ss:Ss)(Q:Ends)(s:L2.St)(H:Hp):Prop
 |mk (r:Y1) (fr:Fr) (h:Hh) (fl:Fl) (aj:Fr) (h':Hh) (c0:SR K m H r fr s) (c1:HR K H r h) (c2:Ev.exs P w ss fr h=.ok (fl,aj) h') (c3:Fin K m r H h' fl aj Q):pY K m P w ss Q s H
def PS.of{st:Stmt}(h:PS X st t)(w:∀Q s H,t' Q s H->t Q s H):PS X st t':=λpins s σ H Q I q=>h pins s σ H Q I (w _ _ _ q)
def fT.of{st:List Stmt}(h:fT X st t)(w:∀Q s H,t' Q s H->t Q s H):fT X st t':=λpins s σ H Q I q=>h pins s σ H Q I (w _ _ _ q)
section
variable(G:Tb)(n:Nat)(sc:Scope)(N:X9)(df:Bool)(m:Θ)
def JS(st:S)(x:Stmt):Prop:=∀X,Good G n sc N df X->PS X x (Wm X.K m (Ev.run G.F G.w n) G.w st)
def qJ(ss:Ss)(xs:List Stmt):Prop:=∀X,Good G n sc N df X->fT X xs (pY X.K m (Ev.run G.F G.w n) G.w ss)
end
section
variable{G:Tb}{n:Nat}{sc:Scope}{N:X9}{df:Bool}{m:Θ}{a:E}{xa tg:Expr}{pos:Pos}
def M7:qJ G n sc N df m .nil []:=λX g=>fT.of wI λQ s H q=>by
 obtain⟨r,c,h,fl,d,f,sr,b,e,q⟩:=q;simp only[Ev.exs]at e;cases e;exact q s H r sr b .refl
def IU{st:S}(h1:JS G n sc N df m st x)(h2:qJ G n sc N df m ss xs):qJ G n sc N df m (.cons st ss) (x :: xs):=λX g=>fT.of (jR (h1 X g) (h2 X g)) λQ s H q=>by
 obtain⟨r,j,h,fl,k,p,sr,y,e,q⟩:=q;obtain⟨⟨c,f⟩,h1,z,e⟩:=Ev.ah e;refine⟨r,j,h,c,f,h1,sr,y,z,?_⟩;cases c with
 |nx=>exact λs1 H1 A B b f1=>⟨A,f,h1,fl,k,p,B,b,e,q.later f1⟩
 |bk=>cases e;exact q
 |ct=>cases e;exact q
 |ret d=>cases e;exact q
def Qu(j i:Nat)(I:m.Nodup)(Z:N.Nodup)(ha:JE G n sc N df m a xa)(hs:∀env:Env,swapsWith xa (some (.Name x pos')) pos.line env=pure false:=by intro _;rfl)(hj:m[j]?=some i:=by rfl)(ym:N[j]?=some x:=by rfl)(hl:sc.names.lookup x=some .local\/(df=true/\sc.names.lookup x=some .cell):=by first|exact Or.inl rfl|exact Or.inr ⟨rfl,rfl⟩):JS G n sc N df m (.set i a) (.Assign [.Name x pos'] xa pos):=λX g=>by
 obtain⟨c,f⟩:=g.loc hl;refine PS.of (qU (by rw[g.nm];exact Z) (by rw[g.nm];exact ym) c (ha X g) (hs _) f) λQ s H q=>?_;obtain⟨r,k,h,fl,B,C,sr,p,e,q⟩:=q;obtain⟨d,c,y,e⟩:=Ev.ah e;cases e;exact⟨r,k,h,d,_,sr,p,y,λv H1 z A b f1=>q _ H1 z ((sr.mono f1).set I hj A) b f1⟩
def M8{l:Θ}(I:JE G n sc N df m a xa)(Z:JG G n sc N df m (.many l) tg)(hs:∀env:Env,swapsWithSole [tg] xa pos.line env=pure false:=by intro _;rfl)(hw:∀env:Env,swappedStores [tg] xa env=pure none:=by intro _;rfl)(h1:∀env:Env,(assignEach [tg] env).map (·.2)=[assign tg env]:=by intro _;rfl):JS G n sc N df m (.ki l a) (.Assign [tg] xa pos):=λX g=>PS.of (Po (I X g) (Z X g) (hs _) (hw _) (h1 _)) λQ s H q=>by
 obtain⟨r,f,h,fl,A,B,sr,k,e,q⟩:=q;simp only[Ev.iM]at e;obtain⟨d,C,p,e⟩:=Ev.ah e;split at e
 .rename_i F x;cases e;exact⟨r,f,h,d,_,sr,k,p,λv H1 j y b f1=>⟨j,f,_,d,_,sr.mono f1,b,y,x,λz c=>q z H1 j c b f1⟩⟩
 ·exists e
def Qv(I:JE G n sc N df m a xa)(Z:∀env:Env,swapsWith xa none pos.line env=pure false:=by intro _;rfl):JS G n sc N df m (.exp a) (.Expr xa pos):=λX g=>PS.of (MA (I X g) (Z _)) λQ s H q=>by
 obtain⟨r,c,h,fl,p,x,sr,f,e,q⟩:=q;obtain⟨d,y,j,e⟩:=Ev.ah e;cases e;exact⟨r,c,h,d,_,sr,f,j,λv H1 k z b f1=>q s H1 k (sr.mono f1) b f1⟩
def Qw(z:JE G n sc N df m a xa):JS G n sc N df m (.ret a) (.Return (some xa) pos):=λX g=>PS.of (zD (z X g)) λQ s H q=>by
 obtain⟨r,b,h,fl,j,k,sr,c,e,q⟩:=q;obtain⟨d,p,f,e⟩:=Ev.ah e;cases e;exact⟨r,b,h,d,_,sr,c,f,q⟩
def Qx:JS G n sc N df m .cnt (.Continue pos):=λX g=>PS.of Bw λQ s H q=>by
 obtain⟨r,c,h,fl,d,f,sr,b,e,q⟩:=q;simp only[Ev.iM]at e;cases e;exact q s H r sr b .refl
def Qy(hc:JT G n sc N df m a xa)(h1:qJ G n sc N df m ta ya)(h2:qJ G n sc N df m tb yb):JS G n sc N df m (.iff a ta tb) (.If xa ya yb pos):=λX g=>PS.of (Dk (hc X g) (h1 X g) (h2 X g)) λQ s H q=>by
 obtain⟨r,c,h,fl,f,j,sr,x,e,q⟩:=q;obtain⟨k,d,y,e⟩:=Ev.ah e;refine⟨r,c,h,k,d,sr,x,y,λH1 p b f1=>?_⟩;cases k with
 |true=>exact⟨p,c,d,fl,f,j,sr.mono f1,b,e,q.later f1⟩
 |false=>exact⟨p,c,d,fl,f,j,sr.mono f1,b,e,q.later f1⟩
def Good.pass(g:Good G n sc N df X):PassesOwn (model X.prog X.w) X.A X.env X.xe:=by
 rw[g.xe];exact PassesOwn.never
def FN(K:Φ)(m:Θ)(I:Fl)(Z:Fr)(h4:Hh)(r1:Y1)(H1:Hp)(s5:L2.St)(z:Hp):Prop:=(I=.nx\/I=.ct)/\∃r5,SR K m z r5 Z s5/\HR K z r5 h4/\Fm K r1 r5 H1 z
section
variable{K:Φ}{r r1 r2:Y1}{H H1 H2:Hp}{h4 h':Hh}{fl iB:Fl}{jz aj:Fr}{Q:Ends}
def IV(L:R (Fl×Fr))(p:Fl×Fr)(h1:Hh):R (Fl×Fr):=match p.1 with
 |.nx=>L
 |.ct=>L
 |.bk=>.ok (.nx,p.2) h1
 |.ret x=>.ok (.ret x,p.2) h1
def BX(e:IV L (iB,jz) h4=.ok (fl,aj) h')(z:iB=.nx\/iB=.ct):L=.ok (fl,aj) h':=by rcases z with rfl|rfl<;>exact e
def zT(e:IV L (iB,jz) h4=.ok (fl,aj) h')(q:Fin K m r H h' fl aj Q)(f:Fm K r r1 H H1)(f2:Fm K r1 r2 H1 H2):Fin K m r2 H2 h4 iB jz { Q with nx:=FN K m iB jz h4 r1 H1,ct:=FN K m iB jz h4 r1 H1,bk:=Q.nx }:=by
 cases iB with
 |nx=>exact λs6 H6 b FG FH f6=>⟨.inl rfl,b,FG,FH,f2.trans f6⟩
 |ct=>exact λs6 H6 b FG FH f6=>⟨.inr rfl,b,FG,FH,f2.trans f6⟩
 |bk=>
  cases e;exact λs6 H6 b FG FH f6=>q s6 H6 b FG FH ((f.trans f2).trans f6)
 |ret d=>
  cases e;exact Res.later q (f.trans f2)
def zU(P:aJ)(w:Nat)(t:T)(tb:Ss):D->Fr->Hh->R (Fl×Fr):=λd b c=>match Ev.cC t d b with
 |some e=>Ev.exs P w tb e c
 |none=>.bad
def FJ(P:aJ)(w:Nat)(t:T)(it:Ev.It)(tb:Ss)(fr:Fr)(h:Hh):Ev.ex P w (.for t it tb) fr h=(Ev.fc P it fr h).bind λs h1=>Ev.forL (zU P w t tb) s.2 s.1 fr h1:=by rfl
def yp(f:D->Fr->Hh->R (Fl×Fr))(z:List (Nat×U2))(d:D)(ds:U2)(fr:Fr)(h:Hh):Ev.forL f z (d :: ds) fr h=if Ev.stays h z then (f d fr h).bind λp h1=>IV (Ev.forL f z ds p.2 h1) p h1 else .bad:=rfl
def FW(K:Φ)(m:Θ)(f:D->Fr->Hh->R (Fl×Fr))(src:Src)(r1:Y1)(H1:Hp)(o:Fl×Fr)(h':Hh)(i k:Nat)(s3:L2.St)(z:Hp):Prop:=
 k=src.1.length - i/\i<=src.1.length/\∃r3 cB h3,SR K m z r3 cB s3/\HR K z r3 h3/\Fm K r1 r3 H1 z/\Ev.forL f src.2 (src.1.drop i) cB h3=.ok o h'
def IW(Z:wX K r1 H1 src J)(q:Fin K m r H h' fl aj Q)(f1:Fm K r r1 H H1)(hW:FW K m (zU P w t tb) src r1 H1 (fl,aj) h' i k s3 H3):
  (J.stop i H3/\Q.nx s3 H3)\/(J.go i H3/\∃N:L2.St->Hp->Prop,(∀σ' H',N σ' H'->∃m',m'<k/\FW K m (zU P w t tb) src r1 H1 (fl,aj) h' (i+1) m' σ' H')/\∀x H',J.KI i H3 x H'->gJ K m t x s3 H' λσ2 H2=>pY K m P w tb { Q with nx:=N,ct:=N,bk:=Q.nx } σ2 H2):=by
 obtain⟨rfl,f,g,B,h,BY,j,f3,b⟩:=hW;rcases Nat.lt_or_ge i src.1.length with c|p
 .rw[ace c,yp]at b;split at b
  .rename_i d;obtain⟨C,F⟩:=(Z i H3 g h j f3 d).1 src.1[i] (VW c);obtain⟨⟨iB,jz⟩,h4,e,b⟩:=Ev.ah b;unfold zU at e;split at e
   .rename_i A I;exact .inr ⟨C,FN K m iB jz h4 r1 H1,λs5 H5 ⟨z,L,FL,M,f5⟩=>⟨_,adF c (abY i),rfl,c,L,jz,h4,FL,M,f5,BX b z⟩,λx H4 y=>
     let ⟨r4,v4,yl,f4⟩:=F x H4 y
     ⟨r4,B,h,_,A,BY.mono f4,yl,v4,I,λs5 FL=>⟨r4,A,h,iB,jz,h4,FL,yl,e,zT b q f1 (f3.trans f4)⟩⟩⟩
   ·exists e
  ·exists b
 .have X:=Nat.le_antisymm f p;subst X;rw[adb]at b;unfold Ev.forL at b;split at b
  .rename_i d;cases b;exact .inl ⟨(Z _ H3 g _ j f3 d).2 (aaB _),q s3 H3 g BY j (f1.trans f3)⟩
  ·exists b
end
def WW(K:Φ)(m:Θ)(P:aJ)(w:Nat)(a:E)(tb:Ss)(r:Y1)(H:Hp)(o:Fl×Fr)(h':Hh)(k:Nat)(s1:L2.St)(H1:Hp):Prop:=
 ∃r1 af h1,SR K m H1 r1 af s1/\HR K H1 r1 h1/\Fm K r r1 H H1/\Ev.g7 (λb c=>Ev.bB P a b c) (λb c=>Ev.exs P w tb b c) k af h1=.ok o h'
def Qz(hc:JT G n sc N df m a xa)(h1:qJ G n sc N df m tb yb):JS G n sc N df m (.qG a tb) (.While xa yb [] pos):=λX g=>PS.of (Il g.pass (hc X g) (h1 X g)) λQ s H q=>by
 obtain⟨r,I,h,fl,J,L,sr,M,e,q⟩:=q;refine⟨WW X.K m (Ev.run G.F G.w n) G.w a tb r H (fl,J) L,⟨_,r,I,h,sr,M,.refl,e⟩,λk s1 H1 P=>?_⟩;obtain⟨W,y,h1,d,f,f1,b⟩:=P;cases k with
 |zero=>exists b
 |succ k=>
  obtain⟨z,A,Y,b⟩:=Ev.ah b;refine⟨W,y,h1,z,A,d,f,Y,λH2 B c f2=>?_⟩;cases z with
  |false=>
   cases b;exact q s1 H2 B (d.mono f2) c (f1.trans f2)
  |true=>
   obtain⟨⟨C,j⟩,p,Z,b⟩:=Ev.ah b;exact⟨FN X.K m C j p r H,λs3 H3 ⟨x,r3,BY,mh,f3⟩=>⟨k,abY k,r3,j,p,BY,mh,f3,BX b x⟩,B,y,A,C,j,p,d.mono f2,c,Z,zT b q .refl (f1.trans f2)⟩
def QA(hi:JI G n sc N df m it tg xa)(I:JG G n sc N df m t tg)(h1:qJ G n sc N df m tb yb)(Z:∀(env:Env) x,foldedSetIterable xa env x=pure x:=by intro _ _;rfl):
  JS G n sc N df m (.for t it tb) (.For tg xa yb [] pos):=λX g=>PS.of (Pq g.pass g.calm (hi X g) (I X g) (h1 X g) (Z _)) λQ s H q=>by
 obtain⟨r,c,h,fl,j,p,sr,y,e,q⟩:=q;obtain⟨src,d,z,e⟩:=Ev.ah e;exact⟨r,c,h,src,d,sr,y,z,λJ H1 f b f1 A=>⟨FW X.K m (zU (Ev.run G.F G.w n) G.w t tb) src f H1 (fl,j) p,⟨src.1.length,rfl,abu _,f,c,d,sr.mono f1,b,.refl,by exact e⟩,λi k s3 H3 B=>IW A q f1 B⟩⟩
end
def getElem?_range'{k j i:Nat}(h:(List.range k)[j]?=some i):i=j:=by
 obtain⟨b,a⟩:=gL h;simpa using a.symm
def uF{K:Φ}(z:aV K H r ds vs)(I:vs.length<=N.length):SR K (List.range N.length) H r (Ev.cX fn ds) (L2.start N vs):=by
 refine⟨by unfold L2.start;simp;lia,λj i d c a=>?_⟩;have e:=getElem?_range' c;subst e;unfold Ev.cX at a;by_cases b:i<ds.length
 .rw[jk (by simpa using b),aaU]at a;cases e4:ds[i]? with
  |none=>rw[e4]at a;exists a
  |some h=>
   rw[e4]at a;cases a;obtain⟨v,f,g⟩:=z.get e4;refine⟨v,?_,g⟩;unfold L2.start;rw[jk (by have:=z.length;simpa using (by lia)),aaU,f];rfl
 .rw[aaY (by simpa using Nat.not_lt.mp b),adj]at a;split at a<;>cases a
section
variable{P:Program}{w:World}{K:Φ}{mg:W1}{base:Heap}{G:Tb}
def sQ(P:Program)(w:World)(K:Φ)(mg:W1)(base:Heap)(G:Tb)(n:Nat):Prop:=∀(f:Nat) i,
 (G.fi++G.mi)[f]?=some i
 ->eT P w K mg base kJ n i.addr i.fd i.ps (qI K G.F G.w n f)
structure Top(P:Program)(w:World)(K:Φ)(mg:W1)(G:Tb):Prop where
 fn:∀(f:Nat) i,G.fi[f]?=some i->mg i.name=some (.ref i.addr)/\W.keepIn K (.ref i.addr)=true/\Binds K i.fd i.ps []
 bl:∀x∈G.bl,mg x=none
 cs:∀x d,(x,d)∈G.cs->∃v u,mg x=some u/\RelV v u/\BW K d v
 dk:∀x kvs,(x,kvs)∈G.dk->∃a,mg x=some (.ref a)/\∀h:Heap,K.In h->StrTab P w h a (tabOf kvs)
 mt:∀(f:Nat) i,G.mi[f]?=some i->W.keepIn K (.ref i.addr)=true/\Binds K i.fd i.ps []
 oc:∀base:Heap,∀o∈G.oc,∃C,IQ P w K mg base G.mi o C
def KY{fi mi:List FI}{f:Nat}(e:fi[f]?=some i):(fi++mi)[f]?=some i:=by rw[jk (gL e).1];exact e
def FO{fi mi:List FI}(e:mi[f]?=some i):(fi++mi)[fi.length+f]?=some i:=by rw[aaY (by lia)];simpa using e
def M9:eT P w K mg base kJ 0 f fd ps (qI K G.F G.w 0 k):=by
 have c:∀a H Q E,¬ qI K G.F G.w 0 k a H Q E:=λa H Q E h=>by
  obtain⟨r,h,ds,d,g,_,_,e,_⟩:=h
  exists e
 exact⟨λa H Q E h=>absurd h (c a H Q E),λA b s H args j a Q E _ _ _ _ h=>absurd h (c a H Q E)⟩
def cE{st:Stmt}{i:FI}(T:Top P w K mg G)(A0:sQ P w K mg base G n)(F:o6 K x qual st i.addr i.fd)(S:aW N i.ps (av st))(hf:G.F[f]?=some fn)(hp:i.ps.length=fn.np)(hb:qJ G n (av st) N true (List.range N.length) fn.body (cV st)):eT P w K mg base kJ (n+1) i.addr i.fd i.ps (qI K G.F G.w (n+1) f):=by
 have a:∀j H Q E,qI K G.F G.w (n+1) f j H Q E->j.length=i.ps.length:=λj H Q E h=>by
  obtain⟨r,h,ds,d,I,k,_,e,_⟩:=h;simp only[Ev.gg,hf]at e;split at e
  .rename_i z;rw[k.length,z,hp]
  ·exists e
 refine F.ok S a λp A c s H j Q E J C=>?_;have hl:=a j H Q E C;have L:j.length<=N.length:=by
  have:=aaL List.length S.pre;rw[abk]at this;lia
 have g:Good G n (av st) N true (l6 kJ P w K mg base N qual (av st) i.addr p A c s H E).iV:=
  ⟨rfl,rfl,rfl,λ_ _=>rfl,J,rfl,λf i b=>⟨(T.fn f i b).1,(T.fn f i b).2.1,(T.fn f i b).2.2,A0 f i
   (KY
   b
   )
   ⟩,T.bl,T.cs,T.dk
   ,λf i b=>⟨(T.mt f i b).1,(T.mt f i b).2,A0 _ i (FO b)⟩,T.oc _
   ⟩
 refine⟨_,hb _ g,?_⟩;obtain⟨r,h,ds,d,I,k,y,e,q⟩:=C;simp only[Ev.gg,hf]at e;split at e
 .obtain⟨⟨fl,M⟩,X,Y,e⟩:=Ev.ah e;refine⟨r,Ev.cX fn ds,h,fl,M,X,uF k L,y,Y,?_⟩;cases fl with
  |nx=>
   exists e
   exact λs' H' Z _ B f'=>q _ H' Z rfl B f'
  |ret d'=>
   exists e
   exact q
  |bk=>exists e
  |ct=>exists e
 ·exists e
end
open PySem.SeqAt
end Sm
namespace Sm
open PySem PySem.Spec PyProof.Rows L2
open Ev (D O Hh Fr R aJ E Es Eo T S Ss Fl Src bN bA TY BI ME)
theorem wY(env:Env):∀(names:List (Str×NameKind)) (I:List (Str×Addr)),(∀x,(x,NameKind.free)∈names->∃c,env.cells.lookup x=some c)->(∀x c,I.lookup x=some c->env.cells.lookup x=some c)->
  ∃cl,(forIn names I (λ(x:Str×NameKind) cs=>if (x.2==NameKind.free)=true then (do let c <-cellOf env x.1;pure (ForInStep.yield ((x.1,c) :: cs)))else pure (ForInStep.yield cs)):Sem (List (Str×Addr)))=pure cl/\
   (∀x c,cl.lookup x=some c->env.cells.lookup x=some c)/\(∀x,(x,NameKind.free)∈names->(cl.lookup x).isSome=true)/\(∀x,(I.lookup x).isSome=true->(cl.lookup x).isSome=true)
 |[],I,_,h2=>⟨I,rfl,h2,(λx h=>by simp at h),λ_ h=>h⟩
 | (y,k) :: r,I,h1,h2=>by
  by_cases f:k=.free
  .subst f;obtain⟨c,C⟩:=h1 y (aa4 ..);have g:∀x b,((y,c) :: I).lookup x=some b->env.cells.lookup x=some b:=λx b e=>by
    rw[abw]at e;split at e
    .rename_i a;have j:x=y:=by simpa using a
     cases e;rw[j];exact C
    .exact h2 x b e
   obtain⟨cl,p,q,A,d⟩:=wY env r ((y,c) :: I) (λx a=>h1 x (aaM _ a)) g;refine⟨cl,?_,q,λx a=>?_,λx a=>d x ?_⟩
   .rw[List.forIn_cons];unfold cellOf;rw[C];exact p
   .rcases qE a with z|z
    .cases z;exact d y (by simp[abw])
    .exact A x z
   .rw[abw];split
    .rfl
    .exact a
  .have B:(k==NameKind.free)=false:=by simpa using f
   obtain⟨cl,p,q,A,d⟩:=wY env r I (λx a=>h1 x (aaM _ a)) h2;refine⟨cl,?_,q,λx a=>?_,d⟩
   .rw[List.forIn_cons];simp only[B,abB,acE];exact p
   .rcases qE a with z|z
    .cases z;exact absurd rfl f
    .exact A x z
def Na(h:∀x,(x,NameKind.free)∈scope.names->∃c,env.cells.lookup x=some c):
  ∃cl,closureFor scope env=pure cl/\(∀x c,cl.lookup x=some c->env.cells.lookup x=some c)/\∀x,(x,NameKind.free)∈scope.names->∃c,cl.lookup x=some c:=by
 obtain⟨cl,a,b,d,_⟩:=wY env scope.names [] h (λx c e=>by simp at e);refine⟨cl,?_,b,λx f=>gN (d x f)⟩;have e:=a;exact aaL (λt:Sem (List (Str×Addr))=>t >>= λg=>pure g) e
def gO(sc scope:Scope):Scope:={ scope with names:=scope.names.map λ(n,k)=>if (k==.free&&sc.kind==.function&&sc.names.lookup n==some .cell)then (n,.cell)else (n,k)}
def wZ(h:env.scope=sc):relabel scope env=gO sc scope:=by
 subst h;rfl
theorem yr{sc:Scope}:∀{names:List (Str×NameKind)}{x:Str},(∀y∈names,y.2≠.cell)->
  ((names.map λ(n,k)=>if (k==NameKind.free&&sc.kind==.function&&sc.names.lookup n==some .cell)then (n,NameKind.cell)else (n,k)).lookup x=some .cell\/
   (names.map λ(n,k)=>if (k==NameKind.free&&sc.kind==.function&&sc.names.lookup n==some .cell)then (n,NameKind.cell)else (n,k)).lookup x=some .free)->(x,NameKind.free)∈names
 |[],_,_,h=>by rcases h with h|h<;>simp at h
 | (n,k) :: r,x,hc,h=>by
  have j:=@yr sc r x λy q=>hc y (aaM _ q);simp only[aaD]at h;have d:∀(a:NameKind),(if (k==NameKind.free&&sc.kind==.function&&sc.names.lookup n==some .cell)then (n,NameKind.cell)else (n,k))=(n,a)->a=.cell\/a=.free->k=.free:=λa e b=>by
   split at e
   .rename_i z;simp only[Bg,adz]at z;exact z.1.1
   .cases e;rcases b with z|z
    .exact absurd z (hc (n,_) (aa4 ..))
    .exact z
  generalize hg:(if (k==NameKind.free&&sc.kind==.function&&sc.names.lookup n==some .cell)then (n,NameKind.cell)else (n,k))=p at h d
  have f:p.1=n:=by rw[<-hg];split<;>rfl
  obtain⟨g,A⟩:=p;simp only at f;subst f;simp only[abw]at h;cases hx:(x==g)with
  |true=>
   have c:x=g:=by simpa using hx
   rw[hx]at h;have:=d A rfl (by rcases h with h|h<;>simp at h<;>simp[h]);subst this;rw[c];exact aa4 ..
  |false=>
   rw[hx]at h;exact aaM _ (j h)
section
variable{prog:Program}{w:World}{A:Around}{R':Result->Shared->Prop}{s:Shared}
abbrev fP:Ξ:=λ_ _=>False
def BZ(z:Kx)(env:Env):Sem Bool:=forIn z true λc r=>if r=true then do let ok <-isTrue c env (eval c env);pure (ForInStep.yield ok)else pure (ForInStep.yield r)
def zV{elt z Z:Expr}{ifs:Kx}{scope:Scope}{pos:Pos}{it acc:Value}{env:Env}(I:Nat->Shared->Prop)(turn:∀n s,I n s->wpAny (model prog w) A (pyNext it) (λr s₁=>match r with
   |none=>R' (.ok .next) s₁
   |some v=>wpAny (model prog w) A (letOwnedTupleGo z it v) (λ_ s₂=>wpAny (model prog w) A (assign z env v) (λ_ s₃=>
     wpAny (model prog w) A (BZ ifs env) (λok s₄=>
      if ok=true then wpAny (model prog w) A (eval elt env) (λx s₅=>
       wpAny (model prog w) A (call (.builtin "list.append") [acc,x]) (λ_ s₆=>∃m,m<n/\I m s₆) fP s₅) fP s₄
      else ∃m,m<n/\I m s₄) fP s₃) fP s₂) fP s₁) fP s)(n:Nat)(h:I n s):codeAny (model prog w) A (.compLoop (.ListComp elt [⟨z,Z,ifs,0⟩] scope pos) 0 it acc env) R' s:=by
 refine codeAny_loop rfl I (λn s d=>?_) n h;show wpAny _ A ((compTurn (.ListComp elt [⟨z,Z,ifs,0⟩] scope pos) 0 it acc env).onRaise (λx=>do noteFrame x env;theTreesLotGoes x)) _ _ s;refine wpAny_noted ?_;rw[compTurn_list];refine gV (wpAny_standAt (gV (aaZ (turn n s d) (λr s₁ b=>?_) λ_ _ a=>a.elim)));cases r with
 |none=>exact ZM b
 |some v=>
  refine gV (aaZ b (λ_ s₂ e=>?_) λ_ _ a=>a.elim);refine gV (aaZ e (λ_ s₃ f=>gV (aaZ f (λok s₄ c=>?_) λ_ _ a=>a.elim)) λ_ _ a=>a.elim);cases ok with
  |false=>exact ZM ⟨rfl,c⟩
  |true=>
   exact gV (gV (aaZ c (λx s₅ g=>gV (aaZ g (λ_ s₆ j=>ZM (ZM ⟨rfl,j⟩)) λ_ _ a=>a.elim)) λ_ _ a=>a.elim))
end
inductive Wn(K:Φ)(m:Θ)(P:aJ)(e:Eo)(s:L2.St)(H:Hp)(Q:Bool->Hp->Prop):Prop
 |mk (r:Y1) (fr:Fr) (h:Hh) (k:Bool) (h':Hh) (c0:SR K m H r fr s) (c1:HR K H r h) (c2:Ev.lM P e fr h=.ok k h') (c3:∀H' r',HR K H' r' h'->Fm K r r' H H'->Q k H'):Wn K m P e s H Q
def JC(G:Tb)(n:Nat)(sc:Scope)(N:X9)(df:Bool)(m:Θ)(e:Eo)(z:Kx):Prop:=∀X,Good G n sc N df X->∀(pins:Ψ) (s:Shared) (σ:L2.St) (H:Hp) (Q:Bool->Hp->Prop),Inv X pins σ H s->
 Wn X.K m (Ev.run G.F G.w n) e σ H Q->wpAny (model X.prog X.w) X.A (BZ z X.env) (TP X pins σ Q) X.xe s
section
variable{G:Tb}{n:Nat}{sc:Scope}{N:X9}{df:Bool}{m:Θ}{a:E}{xa:Expr}
def Vg:JC G n sc N df m .no []:=λX g pins s σ H Q I q=>by
 obtain⟨r,c,h,k,d,sr,b,e,q⟩:=q;simp only[Ev.lM]at e
 exists e
 exact ZM ⟨H,I,q H r b .refl⟩
def QB(hc:JT G n sc N df m a xa):JC G n sc N df m (.yes a) [xa]:=λX g pins s σ H Q I q=>by
 obtain⟨r,b,h,k,c,sr,d,e,q⟩:=q;simp only[Ev.lM]at e;exact wpAny_tests_one (hc X g pins s σ H Q I ⟨r,b,h,k,c,sr,d,e,q⟩)
end
def vq(X:Cx)(z:X9)(scope:Scope)(cl:List (Str×Addr))(C:Addr)(s3:Shared)(I:Hp)(fp:Y1):Cx:=
 { X with N:=z,s₀:=s3,H₀:=I,env:=compEnvC scope cl C X.env,outer:=X.stack,stack:=X.stack,ex:=fp,fn:=λ_=>false,pn:=[],xe:=λ_ _=>False }
def namesOk(sc:Scope)(N:X9)(m:Θ)(scope:Scope)(t:T)(z:X9)(m':Θ):Prop:=m'.length=z.length/\
 ∀(j:Nat) x i,z[j]?=some x->m'[j]?=some i->i∈Ev.slots t\/((x,NameKind.free)∈scope.names/\∃jo:Nat,N[jo]?=some x/\m[jo]?=some i)
def vt(sc:Scope)(N:X9)(m:Θ)(scope:Scope)(t:T)(z:X9)(m':Θ):Bool:=m'.length==z.length&&
 (List.range z.length).all λj=>match z[j]?,m'[j]? with
  |some x,some i=>(Ev.slots t).contains i || (scope.names.contains (x,NameKind.free)&&(List.range N.length).any λa=>N[a]?==some x&&m[a]?==some i)
  |_,_=>true
def namesOk.of(h:vt sc N m scope t N' m'=true):namesOk sc N m scope t N' m':=by
 unfold vt at h;rw[Bg]at h;refine⟨by simpa using h.1,λj x i a c=>?_⟩;have d:=(gL a).1;have q:=List.all_eq_true.mp h.2 j (List.mem_range.mpr d);rw[a,c]at q;simp only[abj,Bg,List.any_eq_true]at q;rcases q with q|⟨e,f,_,b⟩
 .exact .inl (by simpa using q)
 .exact .inr ⟨by simpa using e,f,by simpa using b.1,by simpa using b.2⟩
def By(e:Ev.cC t d fr=some ao)(hi:i∉Ev.slots t):ao[i]?=fr[i]?:=by
 have go:∀(l:Θ) (ds:U2) (fr ao:Fr),Ev.dJ l ds fr=some ao->i∉l->ao[i]?=fr[i]?:=by
  intro l;induction l with
  |nil=>
   intro ds fr ao e _;cases ds with
   |nil=>exists e;rfl
   |cons _ _=>exists e
  |cons j l b=>
   intro ds fr ao e a;cases ds with
   |nil=>exists e
   |cons d ds=>
    rw[b ds _ _ e λz=>a (aaM _ z),T7];intro z;exact a (by rw[z];exact aa4 ..)
 cases t with
 |one j=>
  exists e
  rw[T7];intro z;exact hi (by simp[Ev.slots,z])
 |many l=>
  cases d with
  |tup ds=>exact go l ds fr ao e hi
  |_=>exists e
def SR.unbind{K:Φ}(sr:SR K m H r ao s)(e:Ev.cC t d fr=some ao)(z:Ev.undef t fr=true):SR K m H r fr s:=by
 refine⟨sr.len,λj i b c a=>sr.sl j i b c ?_⟩;rw[By e]
 .exact a
 .intro f;have q:=List.all_eq_true.mp z i f;rw[a]at q
  exists q
structure oN(sc scope:Scope):Prop where
 kind:scope.kind=.function
 FP:∀y∈scope.names,y.2≠.cell
 free:∀x,(x,NameKind.free)∈scope.names->(sc.names.lookup x=some .cell\/sc.names.lookup x=some .free)/\scope.names.lookup x=some .free
 loc:∀y∈scope.names,y.2=.local->scope.names.lookup y.1=some .local
def KZ(sc scope:Scope):Bool:=scope.kind==.function&&scope.names.all λy=>y.2 != .cell&&(y.2 != .free || ((sc.names.lookup y.1==some .cell ||sc.names.lookup y.1==some .free)&&scope.names.lookup y.1==some .free))&&(y.2 != .local ||scope.names.lookup y.1==some .local)
def oN.of(h:KZ sc scope=true):oN sc scope:=by
 unfold KZ at h;rw[Bg]at h;have q:∀y∈scope.names,y.2≠.cell/\(y.2=.free->(sc.names.lookup y.1=some .cell\/sc.names.lookup y.1=some .free)/\scope.names.lookup y.1=some .free)/\(y.2=.local->scope.names.lookup y.1=some .local):=λy a=>by
  have z:=List.all_eq_true.mp h.2 y a;simp only[Bg,abj,bne_iff_ne,adz,ne_eq]at z;refine⟨z.1.1,λe=>?_,λe=>?_⟩
  .rcases z.1.2 with w|w
   .exact absurd e w
   .exact w
  .rcases z.2 with w|w
   .exact absurd e w
   .exact w
 exact⟨by simpa using h.1,λy a=>(q y a).1,λx b=>(q _ b).2.1 rfl,λy a=>(q y a).2.2⟩
theorem yt{sc:Scope}:∀{names:List (Str×NameKind)}{x:Str},names.lookup x=some .free->
  ((names.map λ(n,k)=>if (k==NameKind.free&&sc.kind==.function&&sc.names.lookup n==some .cell)then (n,NameKind.cell)else (n,k)).lookup x=some .cell\/
   (names.map λ(n,k)=>if (k==NameKind.free&&sc.kind==.function&&sc.names.lookup n==some .cell)then (n,NameKind.cell)else (n,k)).lookup x=some .free)
 |[],_,h=>by simp at h
 | (n,k) :: r,x,h=>by
  have a:=@yt sc r x;simp only[aaD];simp only[abw]at h;by_cases b:(k==NameKind.free&&sc.kind==.function&&sc.names.lookup n==some .cell)=true
  .rw[OL b];simp only[abw];cases hx:(x==n)with
   |true=>exact .inl rfl
   |false=>rw[hx]at h;exact a h
  .rw[aaH b];simp only[abw];cases hx:(x==n)with
   |true=>rw[hx]at h;exact .inr h
   |false=>rw[hx]at h;exact a h
section
variable{G:Tb}{n:Nat}{sc scope:Scope}{N N':X9}{df:Bool}{m m':Θ}{t:T}{X:Cx}
def Good.comp(g:Good G n sc N df X):Good G n (gO sc scope) N' false (vq X N' scope cl C s3 H3 fp):=
 ⟨rfl,wZ g.sc,g.calm,(λh=>by exists h),g.room,rfl,g.fn,g.bl,g.cs,g.dk
 ,g.mt,g.oc
 ⟩
def Nb{pins:Ψ}{σ:L2.St}{H3:Hp}{s3:Shared}(g:Good G n sc N df X)(I:Inv X pins σ H3 s3)(hs:oN sc scope){cl:List (Str×Addr)}(ko:∀x c,cl.lookup x=some c->X.env.cells.lookup x=some c)(oQ:∀x,(x,NameKind.free)∈scope.names->∃c,cl.lookup x=some c){fp:Y1}(Z:∀b∈fp,j9 X pins H3 b)(hfl:∀b∈fp,b<s3.heap.objs.size):(vq X N' scope cl s3.heap.objs.size s3 H3 fp).Ok where
 mod:=I.ok.mod
 kind:=hs.kind
 glob:=I.ok.glob
 blt:=I.ok.blt
 above:=aaB _
 inj:=λx y c d f=>I.ok.inj x y c (ko x c d) (ko y c f)
 has:=λx h=>by
  have j:(gO sc scope).names.lookup x=some .cell\/(gO sc scope).names.lookup x=some .free:=by
   rw[<-wZ (scope:=scope) g.sc];exact h
  exact oQ x (yr hs.FP j)
 zB:=λx c h=>by exists h
 hd:=I.ok.hd
 frames:=I.ok.frames
 stk:=.inl rfl
 EO:=λb a=>⟨aaV (hfl b a),λx c e=>(Z b a).2.2.2.2.1 x c (ko x c e)⟩
 bs:=I.bs
 qD:=aaN I.ok.qD I.sz
 ux:=λb o e a=>by
  rcases(Z b a).2.2.2.1 with z|z
  .exact I.ok.ux b o e z
  .have:=aaF (I.ok.bs b o e).1;exact absurd (WU this z) (aa6 _)
 uy:=λb a z=>by
  rcases qE (I.u7 b z)with q|q
  .exact(Z b a).2.1 q
  .exact(Z b a).2.2.1 q
 jE:=I.stack
 qQ:=I.wG
open Classical in
def sig(scope:Scope)(N N':X9)(m':Θ)(K:Φ)(H:Hp)(r:Y1)(fr:Fr)(σ:L2.St):L2.St:=
 (List.range N'.length).map λj=>if h:∃v,∃x i,N'[j]?=some x/\m'[j]?=some i/\(x,NameKind.free)∈scope.names/\(∃jo:Nat,N[jo]?=some x/\σ[jo]?=some (some v))/\∀d,fr[i]?=some (some d)->RV K H r d v then some h.choose else none
def QC{K:Φ}{j:Nat}(h:(sig scope N N' m' K H r fr σ)[j]?=some (some v)):
  ∃x i,N'[j]?=some x/\m'[j]?=some i/\(x,NameKind.free)∈scope.names/\(∃jo:Nat,N[jo]?=some x/\σ[jo]?=some (some v))/\∀d,fr[i]?=some (some d)->RV K H r d v:=by
 unfold sig at h;rw[aaU]at h;cases e:(List.range N'.length)[j]? with
 |none=>rw[e]at h;exists h
 |some b=>
  have:=getElem?_range' e;rw[e]at h;simp only[Option.map_some,acs]at h;split at h
  .rename_i a
   exists h
   exact a.choose_spec
  ·exists h
def QD{K:Φ}(sr:SR K m H r fr σ)(hn:namesOk sc N m scope t N' m')(Z:Ev.undef t fr=true):SR K m' H r fr (sig scope N N' m' K H r fr σ):=by
 refine⟨by unfold sig;simp[hn.1],λj i d b c=>?_⟩;have e:j<N'.length:=by rw[<-hn.1];exact(gL b).1
 have f:=VW e;rcases hn.2 j _ i f b with k|⟨p,a,y,z⟩
 .exfalso;have q:=List.all_eq_true.mp Z i k;rw[c]at q
  exists q
 .obtain⟨v,A,B⟩:=sr.sl a i d z c;have ex:∃v,∃x i,N'[j]?=some x/\m'[j]?=some i/\(x,NameKind.free)∈scope.names/\(∃a:Nat,N[a]?=some x/\σ[a]?=some (some v))/\∀d,fr[i]?=some (some d)->RV K H r d v:=
   ⟨v,N'[j],i,f,b,p,⟨a,y,A⟩,λF g=>by rw[c]at g;cases g;exact B⟩
  refine⟨ex.choose,?_,?_⟩
  .unfold sig;rw[aaU,abM e];simp only[Option.map_some];rw[dif_pos ex]
  .obtain⟨I,J,L,h,M,P,C⟩:=ex.choose_spec;rw[b]at h;exists h;exact C d c
def IX{pins:Ψ}{σ:L2.St}{H3:Hp}{s3:Shared}(g:Good G n sc N df X)(I:Inv X pins σ H3 s3)(hs:oN sc scope){cl:List (Str×Addr)}(ko:∀x c,cl.lookup x=some c->X.env.cells.lookup x=some c)(oQ:∀x,(x,NameKind.free)∈scope.names->∃c,cl.lookup x=some c){fp:Y1}(hfp:∀b∈fp,j9 X pins H3 b)(hfl:∀b∈fp,b<s3.heap.objs.size){h1:Heap}{tk:Nat}{mm:W1}(hns:h1.Ns s3.heap.objs.size mm)(hk:∀b o,s3.heap.get? b=some o->h1.get? b=some o){r:Y1}{fr:Fr}:
  Inv (vq X N' scope cl s3.heap.objs.size s3 H3 fp) [] (sig scope N N' m' X.K H3 r fr σ) H3 { s3 with heap:=h1,toks:=tk }:=by
 refine⟨Nb g I hs ko oQ hfp hfl,rfl,I.bare,Un.kept hk,⟨mm,hns,λj x v F H e3=>?_⟩,λx c e=>?_,I.hok.fresh (aaB _),λx c e=>I.jO x c (ko x c e),(λp J=>by simp[vq]at J),I.hok.kept hk,(by unfold sig;simp[vq])⟩
 .obtain⟨x',i,B,q2,C,⟨L,M,P⟩,_⟩:=QC H;have f:N'[j]?=some x:=F;rw[f]at B;cases B;obtain⟨f1,f2⟩:=hs.free x C;obtain⟨mO,Q,h⟩:=I.loc;obtain⟨u,W,Y⟩:=h L x v (by rw[g.nm];exact M) P (by rw[g.sc];rcases f1 with z|z<;>simp[xY,z]);refine⟨u,W,?_⟩;have k:X.env.kindOf x=some .cell\/X.env.kindOf x=some .free:=by unfold Env.kindOf;rw[g.sc];exact f1
  rcases Y with ⟨z,_⟩|⟨_,c,Z,a⟩
  .rcases k with w|w <;> (rw[z]at w;cases w)
  .obtain⟨q,d⟩:=oQ x C;have:q=c:=by
    have:=ko x q d;rw[Z]at this;exists this;rfl
   subst this;refine .inr ⟨?_,q,d,?_⟩
   .show(relabel scope X.env).names.lookup x=some .cell\/(relabel scope X.env).names.lookup x=some .free;rw[wZ (scope:=scope) g.sc];exact yt f2
   .obtain⟨o,y,A⟩:=a;exact⟨o,hk _ _ y,A⟩
 .obtain⟨v,o,y,A⟩:=I.cell x c (ko x c e);exact⟨v,o,hk _ _ y,A⟩
end
section
variable{G:Tb}{n:Nat}{sc scope:Scope}{N N':X9}{df:Bool}{m m':Θ}{elt:E}{t:T}{it:Ev.It}{cond:Eo}{xe xi tg:Expr}{ifs:Kx}{pos:Pos}{X:Cx}
def DN(P:aJ)(elt:E)(t:T)(cond:Eo)(fr:Fr):D->Hh->R (Option D):=λd c=>match Ev.cC t d fr with
 |none=>.bad
 |some a=>(Ev.lM P cond a c).bind λk b=>if k then (Ev.ev P elt a b).bind λx e=>.ok (some x) e else .ok none b
def w9(P:aJ)(elt:E)(t:T)(it:Ev.It)(cond:Eo)(fr:Fr)(h:Hh):Ev.ev P (.comp elt t it cond) fr h=(Ev.fc P it fr h).bind λs h1=>if Ev.undef t fr then
  (Ev.cL (DN P elt t cond fr) s.2 s.1 h1).bind λds h2=>Ev.alloc ds h2 else .bad:=by
 simp only[Ev.ev];rfl
inductive CI(Y:Cx)(m':Θ)(f:D->Hh->R (Option D))(fr:Fr)(src:Src)(fp:Y1)(tn:Nat->Heap->Prop)(r2:Y1)(H2:Hp)(Dd:Addr)(ds:U2)(h2:Hh)(k:Nat)(s:Shared):Prop
 |mk (i:Nat) (ud:L2.St) (Hc:Hp) (rc:Y1) (hc:Hh) (dn:U2) (vs:T1) (rest:U2) (c0:Inv Y [] ud Hc s) (c1:tn i s.heap) (c2:∀b∈fp,Hc b=none) (c3:k=src.1.length - i) (c4:i<=src.1.length) (c5:SR Y.K m' Hc rc fr ud) (c6:HR Y.K Hc rc hc) (c7:Fm Y.K r2 rc H2 Hc) (c8:Hc Dd=some (.lst vs)) (c9:Dd∉rc) (d0:aV Y.K Hc rc dn vs) (d1:Ev.cL f src.2 (src.1.drop i) hc=.ok rest h2) (d2:dn++rest=ds):CI Y m' f fr src fp tn r2 H2 Dd ds h2 k s
section
variable{Y:Cx}{sc':Scope}{J:L2.It}{fp:Y1}{ita:Addr}{tn:Nat->Heap->Prop}{fr:Fr}{src:Src}{r2:Y1}{H2:Hp}{Dd:Addr}{ds:U2}{h2:Hh}
def DO(I:Good G n sc' N' false Y){α:Type}{tt:Sem α}{Q:α->Shared->Prop}(z:wpAny (model Y.prog Y.w) Y.A tt Q Y.xe s):wpAny (model Y.prog Y.w) Y.A tt Q fP s:=by rw[I.xe]at z;exact z
def B3{i:Nat}{qK:L2.St}{I:Hp}{Z:Y1}{h9:Hh}{dn:U2}{vs:T1}{z:U2}{s9:Shared}{p:Ψ}{f:D->Hh->R (Option D)}(hlt:i<src.1.length)(I9:Inv Y ([]++p) qK I s9)(bk:tn (i+1) s9.heap/\∀b∈fp,I b=none)(q:SR Y.K m' I Z fr qK)(yu:HR Y.K I Z h9)(fm:Fm Y.K r2 Z H2 I)(DP:I Dd=some (.lst vs))(DQ:Dd∉Z)(rv:aV Y.K I Z dn vs)(e7:Ev.cL f src.2 (src.1.drop (i+1)) h9=.ok z h2)(ed:dn++z=ds):
  ∃k,k<src.1.length - i/\CI Y m' f fr src fp tn r2 H2 Dd ds h2 k s9:=
 ⟨src.1.length - (i+1),adF hlt (abY i),i+1,qK,I,Z,h9,dn,vs,z,I9.pS,bk.1,bk.2,rfl,hlt,q,yu,fm,DP,DQ,rv,e7,ed⟩
def QE{i:Nat}{qK:L2.St}{H9:Hp}{r9:Y1}{h9:Hh}{dn:U2}{vs:T1}{xd:D}{I:V}{K0:Value}{Z:U2}{s9:Shared}{p:Ψ}{f:D->Hh->R (Option D)}(hlt:i<src.1.length)(pq:H2 Dd=none)(hsz:ds.length<=sizeLine)(gC:Good G n sc' N' false Y)(I9:Inv Y ([]++p) qK H9 s9)(IY:RelV I K0)(bk:∀{σ':L2.St}{H':Hp}{s':Shared},Inv Y ([]++p) σ' H' s'->tn (i+1) s'.heap/\∀b∈fp,H' b=none)(q:SR Y.K m' H9 r9 fr qK)(yu:HR Y.K H9 r9 h9)(fm:Fm Y.K r2 r9 H2 H9)(ue:H9 Dd=some (.lst vs))(zW:Dd∉r9)(rv:aV Y.K H9 r9 dn vs)(IZ:RV Y.K H9 r9 xd I)(e7:Ev.cL f src.2 (src.1.drop (i+1)) h9=.ok Z h2)(ed:dn++xd :: Z=ds):
  wpAny (model Y.prog Y.w) Y.A (call (.builtin "list.append") [.ref Dd,K0]) (λ_ K1=>∃k,k<src.1.length - i/\CI Y m' f fr src fp tn r2 H2 Dd ds h2 k K1) fP s9:=by
 have a:vs.length<sizeLine:=by
  have x:=rv.length;have h2:=aaL List.length ed;simp at h2;lia
 refine bx (DO gC (nU _ s9 qK H9 (.ref Dd) [I] (.ref Dd) [K0] (λ_ Wo=>Wo=upd H9 Dd (.lst (vs++[I]))) I9 rfl (.cons IY .nil) ⟨Dd,vs,I,rfl,rfl,ue,a,rfl⟩)) λ_ K1 zr=>?_;obtain⟨_,Wo,Wq,_,Zb⟩:=zr;subst Zb;refine B3 (dn:=dn++[xd]) (vs:=vs++[I]) hlt Wq (bk Wq) ?_ (yu.other ue zW) (fm.other pq ue) bU zW ?_ e7 ?_
 .exact⟨q.len,λj c d e g=>by
   obtain⟨w,h,r⟩:=q.sl j c d e g;exact⟨w,h,r.grow (λ_ _ z=>z) (jr ue)⟩⟩
 .exact(rv.append (.cons IZ .nil)).grow (λ_ _ z=>z) (jr ue)
 .rw[<-ed];simp
def FQ(gC:Good G n sc' N' false Y)(hg:JG G n sc' N' false m' t tg)(hc:JC G n sc' N' false m' cond ifs)(he:JE G n sc' N' false m' elt xe)(Tn:Turn Y.prog Y.w Y.K tg J fp ita tn)(pT:∀{Hc:Hp},(∀b∈fp,Hc b=none)->∀b∈fp,j9 Y [] Hc b)(hu:Ev.undef t fr=true)(hJ:wX Y.K r2 H2 src J)(pq:H2 Dd=none)(hsz:ds.length<=sizeLine)(Zc:∀s6 ud Hc rc vs,Inv Y [] ud Hc s6->HR Y.K Hc rc h2->Fm Y.K r2 rc H2 Hc->Hc Dd=some (.lst vs)->Dd∉rc->aV Y.K Hc rc ds vs->R' (.ok .next) s6)(h:CI Y m' (DN (Ev.run G.F G.w n) elt t cond fr) fr src fp tn r2 H2 Dd ds h2 k s):codeAny (model Y.prog Y.w) Y.A (.compLoop (.ListComp xe [⟨tg,xi,ifs,0⟩] scope pos) 0 (.ref ita) (.ref Dd) Y.env) R' s:=by
 refine zV (CI Y m' (DN (Ev.run G.F G.w n) elt t cond fr) fr src fp tn r2 H2 Dd ds h2) ?_ k h;rintro k s5 ⟨i,ud,Hc,rc,hc',dn,vs,rest,I5,BK,u9,rfl,hle,FL,yq,zX,ue,zW,FT,a,K3⟩;rcases Nat.lt_or_ge i src.1.length with d|L
 .rw[ace d]at a;simp only[Ev.cL]at a;split at a
  .rename_i g;obtain⟨M,_⟩:=hJ i Hc rc hc' yq zX g;obtain⟨g1,g2⟩:=M src.1[i] (VW d);obtain⟨o,h6,c,a⟩:=Ev.ah a;obtain⟨P,h7,e7,a⟩:=Ev.ah a;cases a;refine bx (Tn.item Y rfl rfl rfl gC.calm i [] s5 ud Hc fP I5 (pT u9) BK g1) λrr s6 zr=>?_;obtain⟨u,Q,h8⟩:=zr;subst Q;refine bx h8 λ_ s7 zr=>?_;obtain⟨x,H7,I7,rx,y7,QF,W⟩:=zr;obtain⟨y,v7,Wr,B4⟩:=g2 x H7 y7;obtain⟨Zd,Ze⟩:=B4.DL ue zW;unfold DN at c;split at c
   ·exists c
   .rename_i z Z;obtain⟨kk,h9,e9,c⟩:=Ev.ah c;have I7':=I7.pinned (pT W) (Tn.obj _ _ QF);refine bx (DO gC (hg _ gC _ s7 ud H7 x u (λB H8=>H8=H7/\SR Y.K m' H7 y z B) I7' rx ⟨y,fr,hc',_,z,FL.mono B4,Wr,v7,Z,λC q=>⟨rfl,q⟩⟩)) λ_ s8 zr=>?_;obtain⟨B,H8,I8,hH8,K4⟩:=zr;subst hH8;refine bx (DO gC (hc _ gC _ s8 B _ (λb H9=>b=kk/\∃j,HR Y.K H9 j h9/\Fm Y.K y j _ H9) I8 ⟨y,z,hc',kk,h9,K4,Wr,e9,λH9 j H f9=>⟨rfl,j,H,f9⟩⟩)) λbb s9 zr=>?_;obtain⟨H9,I9,PY,j,H,f⟩:=zr;subst PY;obtain⟨DQ,DP⟩:=f.DL Ze Zd;have back:∀{σ':L2.St} {H':Hp} {C:Shared},Inv Y ([]++qV fp s7.heap) σ' H' C->tn (i+1) C.heap/\∀b∈fp,H' b=none:=λ{σ' H' C} I'=>
     ⟨Tn.keep _ _ _ QF λb I o e=>(I'.pin (b,o) (aa3 _ (aa3 _ (mz I e)))).1,λb I=>
      let ⟨o,e,_⟩:=Tn.obj _ _ QF b I
      (I'.pin (b,o) (aa3 _ (aa3 _ (mz I e)))).2.1⟩
    cases bb with
    |false=>
     cases c;exact B3 d I9 (back I9) ((K4.mono f).unbind Z hu) H ((zX.trans B4).trans f) DP DQ ((FT.mono B4).mono f) e7 K3
    |true=>
     simp only[aa0]at c ⊢;obtain⟨xd,Ws,K5,c⟩:=Ev.ah c;cases c;refine bx (DO gC (he _ gC _ s9 B H9 (λv FY=>∃p,RV Y.K FY p xd v/\HR Y.K FY p _/\Fm Y.K j p H9 FY) I9 ⟨j,z,h9,xd,_,K4.mono f,H,K5,λv FY p r Ja B5=>⟨p,r,Ja,B5⟩⟩)) λK0 Wt zr=>?_;obtain⟨r,FY,I10,IY,p,IZ,Ja,DR⟩:=zr;obtain⟨Vh,Vi⟩:=DR.DL DP DQ;exact QE d pq hsz gC I10 IY back (((K4.mono f).mono DR).unbind Z hu) Ja (((zX.trans B4).trans f).trans DR) Vi Vh (((FT.mono B4).mono f).mono DR) IZ e7 K3
  ·exists a
 .have hi':i=src.1.length:=Nat.le_antisymm hle L;subst hi';rw[adb]at a;simp only[Ev.cL]at a;split at a
  .rename_i g;cases a;refine bx (Tn.done Y rfl rfl rfl gC.calm _ [] s5 ud Hc fP I5 (pT u9) BK ((hJ _ Hc rc _ yq zX g).2 (aaB _))) λrr s6 zr=>?_;obtain⟨hrr,I6⟩:=zr;subst hrr;rw[aaJ]at K3;subst K3;exact Zc s6 ud Hc rc vs I6 yq zX ue zW FT
  ·exists a
end
def yy(g:Good G n sc N df X)(hi:JI G n sc N df m it tg xi)(hg:JG G n (gO sc scope) N' false m' t tg)(hc:JC G n (gO sc scope) N' false m' cond ifs)(he:JE G n (gO sc scope) N' false m' elt xe)(hn:namesOk sc N m scope t N' m')(hs:oN sc scope){cl:List (Str×Addr)}(ko:∀x c,cl.lookup x=some c->X.env.cells.lookup x=some c)(oQ:∀x,(x,NameKind.free)∈scope.names->∃c,cl.lookup x=some c){pins:Ψ}{σ:L2.St}{H:Hp}{s:Shared}(I:Inv X pins σ H s){r:Y1}{fr:Fr}{h:Hh}{d:D}{h':Hh}(sr:SR X.K m H r fr σ)(hr:HR X.K H r h)(e:Ev.ev (Ev.run G.F G.w n) (.comp elt t it cond) fr h=.ok d h')(post:Value->Addr->Result->Shared->Prop)(hpost:∀Dd C s' H' r',Inv X pins σ H' s'->(∃mm,s'.heap.Ns C mm)->j9 X pins H' C->RV X.K H' r' d (.ref Dd)->HR X.K H' r' h'->Fm X.K r r' H H'->post (.ref Dd) C (.ok .next) s'){E:Ξ}(hE:X.xe=λ_ _=>False):
  wpAny (model X.prog X.w) X.A (eval xi X.env) (λx s₁=>wpAny (model X.prog X.w) X.A (pyIter x) (λitv s₂=>wpAny (model X.prog X.w) X.A (newList []) (λacc s₃=>
   wpAny (model X.prog X.w) X.A (newFunctionEnv scope X.env.globals cl [] X.env.qual none .none (some X.env)) (λcenv s₄=>
    codeAny (model X.prog X.w) X.A (.compStart (.ListComp xe [⟨tg,xi,ifs,0⟩] scope pos) 0 itv acc { cenv with scope:=relabel scope X.env }) (post acc cenv.locals) s₄) E s₃) E s₂) E s₁) E s:=by
 rw[w9]at e;obtain⟨src,h1,e1,e⟩:=Ev.ah e;split at e
 .rename_i hu;obtain⟨ds,h2,e2,e⟩:=Ev.ah e;have iV:∀{α:Type} {tt:Sem α} {Q:α->Shared->Prop} {s:Shared},wpAny (model X.prog X.w) X.A tt Q X.xe s->wpAny (model X.prog X.w) X.A tt Q E s:=λ{α tt Q s} hw=>aaZ hw (λ_ _ q=>q) λ_ _ q=>by rw[hE]at q;exact q.elim
  refine bx (iV (hi X g pins s σ H (λJ H2=>∃B,HR X.K H2 B h1/\Fm X.K r B H H2/\wX X.K B H2 src J) I ⟨r,fr,h,src,h1,sr,hr,e1,λJ H2 B j f2 hJ=>⟨B,j,f2,hJ⟩⟩)) λv s1 q1=>?_;refine bx (iV q1) λitv s2 q2=>?_;obtain⟨ita,L,tn,J,H2,rfl,I2,Tn,Y,f2,B,j,K6,hJ⟩:=q2;refine abp ?_;generalize K7:s2.heap.objs.size=Dd
  have M:H2 Dd=none:=by rw[<-K7];exact I2.fresh
  have I3:Inv X pins σ (upd H2 Dd (.lst [])) { s2 with heap:=s2.heap.push { cls:=.type "list",data:=.seq ([]:Y2).toArray }}:=by
   have:=I2.IE (ys:=[]) (its:=[]) (t':=s2.toks) .nil (abu _);rw[K7]at this;exact this
  have QG:∀b∈L,b<s2.heap.objs.size:=λb f=>by
   obtain⟨o,e,_⟩:=Tn.obj 0 _ Y b f;exact aaF e
  generalize QH:({ s2 with heap:=s2.heap.push { cls:=.type "list",data:=.seq ([]:Y2).toArray }}:Shared)=s3 at I3
  have Zf:s3.heap.objs.size=s2.heap.objs.size+1:=by rw[<-QH];exact adq ..
  have k3:∀b o,s2.heap.get? b=some o->s3.heap.get? b=some o:=λb o e=>by rw[<-QH];exact aaa _ e
  have QI:∀b∈L,b<s3.heap.objs.size:=λb f=>WU (QG b f) (by rw[Zf];exact adL _);have xg:∀b∈L,j9 X pins (upd H2 Dd (.lst [])) b:=λb f=>⟨by rw[aQ (λz=>absurd (QG b f) (by rw[z,K7];exact aa6 _))];exact(f2 b f).1,(f2 b f).2⟩
  refine wpAny_newFunctionEnv (hs.FP) (λy hy=>by simp at hy) (λQJ Zg Zh=>?_) hs.kind;have k4:∀b o,s3.heap.get? b=some o->QJ.get? b=some o:=λb o e=>Zh.extBut b o (aaV (aaF e)) (aaa _ e);have gC:Good G n (gO sc scope) N' false (vq X N' scope cl s3.heap.objs.size s3 (upd H2 Dd (.lst [])) L):=g.comp;have I4:Inv (vq X N' scope cl s3.heap.objs.size s3 (upd H2 Dd (.lst [])) L) [] (sig scope N N' m' X.K (upd H2 Dd (.lst [])) B fr σ) (upd H2 Dd (.lst [])) { s3 with heap:=QJ,toks:=s3.toks+0 }:=
   IX g I3 hs ko oQ xg QI Zg k4
  have BY:SR X.K m' (upd H2 Dd (.lst [])) B fr (sig scope N N' m' X.K (upd H2 Dd (.lst [])) B fr σ):=QD (((sr.mono K6).mono (Fm.tup M))) hn hu;have mh:HR X.K (upd H2 Dd (.lst [])) B h1:=j.tup M;have Wu:Dd∉B:=λhm=>by
   obtain⟨k,hk⟩:=adC hm;have Z:k<h1.length:=by rw[<-j.len];exact(gL hk).1
   obtain⟨a,e3,e4⟩:=j.ob k _ (VW Z);rw[hk]at e3;cases e3;cases W:h1[k]with
   |lst dd=>rw[W]at e4;obtain⟨us,P,_⟩:=e4;rw[M]at P;exists P
   |bY dd=>
    rw[W]at e4;obtain⟨us,P,_⟩:=e4;rcases P with ⟨ob,P⟩|⟨ob,_,_,P,_⟩
    .rw[M]at P;exists P
    .have:=aaF (I2.iu _ _ P);rw[K7]at this;exact absurd this (aa6 _)
   |obj c dd=>
    obtain⟨a,_,_,w⟩:=j.ox.ob k c dd (by rw[VW Z,W]);obtain⟨C,_,w2⟩:=w.ins;have:=w.at_;rw[hk]at this;cases this;rw[M]at w2;exists w2
   |cD nn kk=>
    obtain⟨a,_,w,w2,_⟩:=j.ox.pv k nn kk (by rw[VW Z,W]);rw[hk]at w;cases w;rw[M]at w2;exists w2
  have hDH:H Dd=none:=by
   cases z:H Dd with
   |none=>rfl
   |some o=>
    have hnr:Dd∉r:=λhm=>by
     obtain⟨k,hk⟩:=adC hm;exact Wu (aaC (K6.pre _ _ hk))
    have:=K6.keep _ _ z hnr;rw[M]at this;exists this
  have pT:∀{Hc:Hp},(∀b∈L,Hc b=none)->∀b∈L,j9 (vq X N' scope cl s3.heap.objs.size s3 (upd H2 Dd (.lst [])) L) [] Hc b:=λ{Hc} hz b f=>by
   refine⟨hz b f,aaV (QI b f),(I4.ok).uy b f,.inl f,λx c e=>((I4.ok).EO b f).2 x c e,λp hp=>?_⟩;simp[vq]at hp
  have hsz:ds.length<=sizeLine:=by
   unfold Ev.alloc at e;split at e
   .rename_i z;rw[<-o9];exact z
   ·exists e
  have fin:codeAny (model X.prog X.w) X.A (.compLoop (.ListComp xe [⟨tg,xi,ifs,0⟩] scope pos) 0 (.ref ita) (.ref Dd) (compEnvC scope cl s3.heap.objs.size X.env)) (post (.ref Dd) s3.heap.objs.size) { s3 with heap:=QJ,toks:=s3.toks+0 }:=by
   refine FQ gC hg hc he Tn pT hu hJ M hsz (λs6 ud Hc rc vs I6 yq zX ue zW FT=>?_) ⟨0,_,_,B,h1,[],[],ds,I4,Tn.keep _ _ _ Y λb f o W=>k4 b o (k3 b o W),λb f=>(xg b f).1,rfl,abu _,BY,mh,Fm.tup M,bU,Wu,.nil,by rw[abV];exact e2,rfl⟩;unfold Ev.alloc at e;split at e
   .cases e;obtain⟨mm6,Zi,_⟩:=I6.loc;refine hpost Dd _ s6 Hc (rc++[Dd]) ?_ ⟨mm6,Zi⟩ ?_ ⟨Dd,rfl,?_⟩ (yq.known ue zW FT) ((K6.trans zX).known ?_)
    .exact I3.zb (ch:=L) (I6.os) I6.base I6.hok I6.bare λb f=>⟨(xg b f).2.2.2.1,(xg b f).2.1,(xg b f).2.2.2.2.1,(xg b f).2.2.2.2.2⟩
    .exact I3.Im (aaB _) I6.free
    .rw[<-yq.len];simp
    .exact hDH
   ·exists e
  subst QH;exact codeAny_compStart_list fin (Tn.self _ 0 _ _ _ (Tn.keep _ _ _ Y λb f o W=>k4 b o (k3 b o W)) fin)
 ·exists e
end
section
variable{G:Tb}{n:Nat}{sc scope:Scope}{N N':X9}{df:Bool}{m m':Θ}{elt:E}{t:T}{it:Ev.It}{cond:Eo}{xe xi tg:Expr}{ifs:Kx}{pos:Pos}
theorem Good.cells{X:Cx}{pins:Ψ}{σ:L2.St}{H:Hp}{s:Shared}(g:Good G n sc N df X)(I:Inv X pins σ H s)(z:oN sc scope):
  ∃cl,closureFor scope X.env=pure cl/\(∀x c,cl.lookup x=some c->X.env.cells.lookup x=some c)/\∀x,(x,NameKind.free)∈scope.names->∃c,cl.lookup x=some c:=
 Na λx a=>I.ok.has x (by unfold Env.kindOf;rw[g.sc];exact(z.free x a).1)
def FZ{X:Cx}{pins:Ψ}{σ:L2.St}{H:Hp}{s:Shared}(I:Inv X pins σ H s){C:Addr}(fp:j9 X pins H C){h':Heap}(z:Heap.SameBut C s.heap h'):Inv X pins σ H { s with heap:=h' }:=
 I.turned (t':=s.toks) (λb o a e=>z.extBut b o a e) fp.1 fp.2.1 fp.2.2.2.1 fp.2.2.2.2.1 fp.2.2.2.2.2
def B6(hi:JI G n sc N df m it tg xi)(hg:JG G n (gO sc scope) N' false m' t tg)(hc:JC G n (gO sc scope) N' false m' cond ifs)(he:JE G n (gO sc scope) N' false m' elt xe)(hn:namesOk sc N m scope t N' m')(Z:oN sc scope)(hf:∀(env:Env) x,foldedSetIterable xi env x=pure x:=by intro _ _;rfl):JE G n sc N df m (.comp elt t it cond) (.ListComp xe [⟨tg,xi,ifs,0⟩] scope pos):=λX g pins s σ H Q I q=>by
 obtain⟨r,J,h,d,K,sr,j,e,q⟩:=q;obtain⟨L,a,k,p⟩:=g.cells I Z;refine adg rfl (hf _) a Z.kind Z.loc ?_;refine yy g hi hg hc he hn Z k p I sr j e (λb C=>compPost (model X.prog X.w) X.A X.xe none (EP X pins σ Q) b C) (λDd C M H' y I' c z rv f K8=>?_) g.xe;obtain⟨B,c⟩:=c;exact⟨B,c,λF Ga=>⟨.ref Dd,H',FZ I' z Ga,rfl,q _ H' y rv f K8⟩⟩
def Nc(j i:Nat){x:Str}{pos' cpos:Pos}(hm:m.Nodup)(hN:N.Nodup)(hi:JI G n sc N df m it tg xi)(hg:JG G n (gO sc scope) N' false m' t tg)(hc:JC G n (gO sc scope) N' false m' cond ifs)(he:JE G n (gO sc scope) N' false m' elt xe)(hn:namesOk sc N m scope t N' m')(hs:oN sc scope)(hj:m[j]?=some i:=by rfl)(ym:N[j]?=some x:=by rfl)(hl:sc.names.lookup x=some .local\/(df=true/\sc.names.lookup x=some .cell):=by first|exact Or.inl rfl|exact Or.inr ⟨rfl,rfl⟩)(hf:∀(env:Env) x,foldedSetIterable xi env x=pure x:=by intro _ _;rfl):
  JS G n sc N df m (.set i (.comp elt t it cond)) (.Assign [.Name x pos'] (.ListComp xe [⟨tg,xi,ifs,0⟩] scope cpos) pos):=λX g=>by
 obtain⟨B,Z⟩:=g.loc hl;have f:swapsWith (.ListComp xe [⟨tg,xi,ifs,0⟩] scope cpos) (some (.Name x pos')) pos.line X.env=pure (X.env.blockKind==.function&&X.env.kindOf x==some .local&&pos'.line==(Expr.ListComp xe [⟨tg,xi,ifs,0⟩] scope cpos).pos.line&&!(scope.names.any λ(n,k)=>n==x&&(k==.local ||k==.cell))):=rfl;generalize hb:(X.env.blockKind==.function&&X.env.kindOf x==some .local&&pos'.line==(Expr.ListComp xe [⟨tg,xi,ifs,0⟩] scope cpos).pos.line&&!(scope.names.any λ(n,k)=>n==x&&(k==.local ||k==.cell)))=b at f
 cases b with
 |false=>
  refine PS.of (qU (i:=j) (by rw[g.nm];exact hN) (by rw[g.nm];exact ym) B (B6 hi hg hc he hn hs hf X g) f Z) λQ s H q=>?_;obtain⟨r,fr,h,fl,aj,h',sr,F,e,q⟩:=q;simp only[Ev.iM]at e;obtain⟨d,B,J,e⟩:=Ev.ah e;cases e;exact⟨r,fr,h,d,_,sr,F,J,λv H1 r1 v1 K f1=>q _ H1 r1 ((sr.mono f1).set hm hj v1) K f1⟩
 |true=>
  have Gb:X.env.kindOf x=some .local:=by
   simp only[Bg,adz]at hb;exact hb.1.1.2
  intro c s σ H Q I q;obtain⟨r,fr,h,fl,aj,h',sr,F,e,q⟩:=q;simp only[Ev.iM]at e;obtain⟨d,h3,J,e⟩:=Ev.ah e;cases e;obtain⟨cl,L,ko,oQ⟩:=g.cells I hs;rw[exec_Assign_Name_used _ _ _ _ f];refine gV (wpAny_standAt (gV ?_));show wpAny _ X.A (do let _ <-comprehension (.ListComp xe [⟨tg,xi,ifs,0⟩] scope cpos) scope X.env _ (newList []) false (eval xi X.env) (some (assign (.Name x pos') X.env))) _ _ s;refine gV (aaZ (adg (use:=some (assign (.Name x pos') X.env)) (Q:=λ_ p=>SP X c Q .next p) rfl (hf _) L hs.kind hs.loc ?_) (λ_ p hq=>ZM (ZM hq)) λ_ _ e=>e);refine yy g hi hg hc he hn hs ko oQ I sr F J (λM C=>compPost (model X.prog X.w) X.A X.xe (some (assign (.Name x pos') X.env)) (λ_ p=>SP X c Q .next p) M C) (λDd C p H' r' I' P y rv W K8=>?_) g.xe;obtain⟨mm,P⟩:=P;show wpAny _ X.A (assign (.Name x pos') X.env (.ref Dd)) _ _ p;refine wpAny_assign_Name (qS (v:=.ref Dd) I' (by rw[g.nm];exact hN) (i:=j) (by rw[g.nm];exact ym) B rfl (λs'' I'' Ga=>?_) Z);obtain⟨a,Ga,ha⟩:=Ga;have Y:C≠a:=by
   rcases ha with z|z
   .rw[z];exact y.2.1
   .exact λw=>y.2.2.2.2.1 x a z w.symm
  refine⟨mm,P.sameBut Ga Y,λh'' Zj=>?_⟩;exact⟨_,H',FZ I'' ⟨y.1,y.2⟩ Zj,q _ H' r' ((sr.mono K8).set hm hj rv) W K8⟩
end
open PySem.SeqAt
structure B7(A:Around)(s:Shared)(u w:Value)(k:Bool):Prop where
 eq:EqAt A s u w k
 rc:RcAt A s u w k
 ne:RcNeAt A s u w (!k)
theorem xj:∀{x y:U2},x.length≠y.length->∀{k},Ev.cY f x y=some k->k=false
 |[],[],h,_,_=>absurd rfl h
 |[],_ :: _,_,_,e=>by cases e;rfl
 |_ :: _,[],_,_,e=>by cases e;rfl
 |a :: x,b :: y,h,k,e=>by
  simp only[Ev.cY,ab5,aab]at e;obtain⟨p,_,q,c,d⟩:=e;have:=xj (by simpa using h) c;subst this;cases d;simp
theorem B8:∀{x y:U2}{k},Ev.cY f x y=some k->x.length=y.length->∃e:Nat->Bool,(∀(j:Nat) a b,x[j]?=some a->y[j]?=some b->f a b=some (e j))/\(List.range x.length).all e=k
 |[],[],_,h,_=>⟨λ_=>true,(λj a b c=>by simp at c),by cases h;simp⟩
 |[],_ :: _,_,_,h=>by simp at h
 |_ :: _,[],_,_,h=>by simp at h
 |a :: x,b :: y,k,h,hl=>by
  simp only[Ev.cY,ab5,aab]at h;obtain⟨p,r,q,z,A⟩:=h
  exists A
  obtain⟨e,c,B⟩:=B8 z (by simpa using hl);refine⟨λj=>match j with|0=>p|j+1=>e j,λj C F d g=>?_,?_⟩
  .cases j with
   |zero=>simp at d g;subst d g;exact r
   |succ j=>exact c j C F (by simpa using d) (by simpa using g)
  .rw[aaI,adn,List.all_cons,List.all_map,<-B];rfl
theorem B9:∀{x y:U2}{k},Ev.cY f x y=some k->∃e:Nat->Bool,∀(j:Nat) a b,x[j]?=some a->y[j]?=some b->f a b=some (e j)
 |[],_,_,_=>⟨λ_=>true,λj a b c=>by simp at c⟩
 |_ :: _,[],_,_=>⟨λ_=>true,λj a b _ c=>by simp at c⟩
 |a :: x,b :: y,k,h=>by
  simp only[Ev.cY,ab5,aab]at h;obtain⟨p,r,q,z,C⟩:=h;obtain⟨e,c⟩:=B9 z;refine⟨λj=>match j with|0=>p|j+1=>e j,λj A B d g=>?_⟩;cases j with
  |zero=>simp at d g;subst d g;exact r
  |succ j=>exact c j A B (by simpa using d) (by simpa using g)
section
variable{X:Cx}{pins:Ψ}{σ:L2.St}{H:Hp}{s:Shared}{r:Y1}{h:Hh}
def sR(I:Inv X pins σ H s)(h1:DJ X.K H a vs)(h2:H b=some (.lst z)):a≠b:=by
 rintro rfl;rcases h1 with ⟨o,h1⟩|⟨o,_,_,h1,_⟩
 .rw[h2]at h1;cases h1
 .have:=(I.bs a o (I.ok.mod.dX a o h1)).2;rw[h2]at this;exists this
def yz(Z:aV X.K H r x vs)(v2:aV X.K H r y ws)(p1:Vals vs us)(p2:Vals ws zs)(ih:∀a b va vb u w k,RV X.K H r a va->RV X.K H r b vb->RelV va u->RelV vb w->f a b=some k->B7 A s u w k)(hl:x.length=y.length)(e:Ev.cY f x y=some k):
  ∃e':Nat->Bool,(∀j (h1:j<us.toArray.size) (h2:j<zs.toArray.size),EqAt A s us.toArray[j] zs.toArray[j] (e' j))/\(List.range us.toArray.size).all e'=k/\us.length=zs.length:=by
 obtain⟨e',h1,h2⟩:=B8 e hl;have N:=Z.length;have P:=v2.length;have Q:=p1.length;have W:=p2.length;refine⟨e',λj Y g=>?_,?_,by lia⟩
 .have p:j<zs.length:=by simpa using g
  have c:x[j]?=some x[j]:=VW (by lia);have d:y[j]?=some y[j]:=VW (by lia);obtain⟨va,q,z⟩:=Z.get c;obtain⟨vb,B,C⟩:=v2.get d;obtain⟨u,F,G⟩:=p1.get q;obtain⟨w,I,J⟩:=p2.get B;have L:us.toArray[j]=u:=by
   have:=(gL F).2;simpa using this
  have M:zs.toArray[j]=w:=by
   have:=(gL I).2;simpa using this
  rw[L,M];exact(ih _ _ _ _ _ _ _ z C G J (h1 j _ _ c d)).eq
 .rw[<-h2];have:us.toArray.size=x.length:=by simp;lia
  rw[this]
def eL(K:Φ)(H:Hp)(r:Y1):D->V->Prop
 |.aN,v=>v=.aN
 |.bl b,v=>v=.bl b
 |.int i,v=>v=.int i
 |.str l,v=>v=.str (aI l)
 |.ref n,v=>∃a,v=.ref a/\r[n]?=some a
 |.tup ds,v=>∃a vs,v=.ref a/\dI K H a vs/\aV K H r ds vs
def RV.shape(h:RV X.K H r d v):eL X.K H r d v:=by
 cases d<;>simp only[RV]at h<;>simp only[eL]<;>first|exact h|exact h.1
def Nd:(aI a==aI b)=(a==b):=by
 by_cases e:a=b
 .subst e;simp
 .have c:=beq_eq_false_iff_ne.mpr λz=>e (wW z);have d:=beq_eq_false_iff_ne.mpr e;rw[c,d]
def uG(I:Inv X pins σ H s)(Z:A.units<cLine)(q1:gK X.K H a vs)(q2:gK X.K H b ws)(v1:aV X.K H r x vs)(v2:aV X.K H r y ws)(hab:a≠b)(ih:∀a b va vb u w k,RV X.K H r a va->RV X.K H r b vb->RelV va u->RelV vb w->Ev.lJ h n a b=some k->B7 A.in1 s u w k)(e:Ev.cY (Ev.lJ h n) x y=some k):B7 A s (.ref a) (.ref b) k:=by
 obtain⟨j,p,d,_⟩:=I.list q1;obtain⟨q,z,f,_⟩:=I.list q2;by_cases B:x.length=y.length
 .obtain⟨M,C,G,J⟩:=yz v1 v2 p z ih B e;have c:j.toArray.size=q.toArray.size:=by simpa using J
  have g:=RcAt.lists d.isList f.isList c Z C;have F:=RcNeAt.lists d.isList f.isList c Z C;rw[G]at g F;exact⟨.of_refs hab g,g,F⟩
 .have L:=xj B e;subst L;have c:(j.toArray.size != q.toArray.size)=true:=by
   have N:=v1.length;have P:=v2.length;have Q:=p.length;have W:=z.length;simp only[aaz,bne_iff_ne,ne_eq];lia
  exact⟨.of_refs hab (.lists_lengths d.isList f.isList c Z),.lists_lengths d.isList f.isList c Z,.lists_lengths d.isList f.isList c Z⟩
def Gd(I:Inv X pins σ H s)(hr:HR X.K H r h)(e:Ev.bI h n=some ds)(z:r[n]?=some a):∃us:Y2,PlainL s.heap a us.toArray:=by
 obtain⟨f,g,b,c,j⟩:=hr.read e;rw[z]at b;exists b;obtain⟨us,_,d,_⟩:=I.list c;exact⟨us,d⟩
def Ge(I:Inv X pins σ H s)(hr:HR X.K H r h):∀(n:Nat) (a b:D) (v:V) (k:Bool),RV X.K H r a v->RV X.K H r b v->Ev.lJ h n a b=some k->k=true:=by
 intro n;induction n with
 |zero=>intro a b v k _ _ e;exists e
 |succ n ih=>
  have A:∀(x y:U2) (f:T1) (k:Bool),aV X.K H r x f->aV X.K H r y f->Ev.cY (Ev.lJ h n) x y=some k->k=true:=by
   intro x;induction x with
   |nil=>
    intro y f k j c e;subst j;cases y with
    |nil=>exists e;rfl
    |cons _ _=>obtain⟨_,_,c,_⟩:=c;exists c
   |cons d x M=>
    intro y f k j c e;obtain⟨v,w,rfl,N,h4⟩:=j;cases y with
    |nil=>exists c
    |cons d' y=>
     simp only[aV]at c;obtain⟨v',w',P,h5,h6⟩:=c;cases P;simp only[Ev.cY,ab5,aab]at e;obtain⟨p,C,q,P,e3⟩:=e
     exists e3
     rw[ih d d' v p N h5 C,M y w q h4 h6 P];rfl
  have lt:∀(a:Addr) (f:T1) (i:Nat) (ds:U2),dI X.K H a f->r[i]?=some a->Ev.bI h i=some ds->False:=λa f i ds j c N=>by
   obtain⟨us,pl⟩:=Gd I hr N c;obtain⟨zs,_,pt,_⟩:=I.tuple j;exact ne_of_list_tuple pl.isList pt rfl
  intro a b v k j c e;have s1:=j.shape;have s2:=c.shape;clear j c;cases a with
  |aN=>simp only[eL]at s1;cases b with
   |aN=>exists e;rfl
   |ref m=>obtain⟨p,z,_⟩:=s2;rw[s1]at z;exists z
   |tup y=>obtain⟨p,_,z,_⟩:=s2;rw[s1]at z;exists z
   |_=>simp only[eL]at s2;rw[s1]at s2;exists s2
  |bl x=>simp only[eL]at s1;cases b with
   |bl y=>simp only[eL]at s2;rw[s1]at s2;exists s2;exists e;simp
   |ref m=>obtain⟨p,z,_⟩:=s2;rw[s1]at z;exists z
   |tup y=>obtain⟨p,_,z,_⟩:=s2;rw[s1]at z;exists z
   |_=>simp only[eL]at s2;rw[s1]at s2;exists s2
  |int x=>simp only[eL]at s1;cases b with
   |int y=>simp only[eL]at s2;rw[s1]at s2;exists s2;exists e;simp
   |ref m=>obtain⟨p,z,_⟩:=s2;rw[s1]at z;exists z
   |tup y=>obtain⟨p,_,z,_⟩:=s2;rw[s1]at z;exists z
   |_=>simp only[eL]at s2;rw[s1]at s2;exists s2
  |str x=>simp only[eL]at s1;cases b with
   |str y=>
    simp only[eL]at s2;rw[s1]at s2;have:x=y:=wW (by injection s2);subst this
    exists e;simp
   |ref m=>obtain⟨p,z,_⟩:=s2;rw[s1]at z;exists z
   |tup y=>obtain⟨p,_,z,_⟩:=s2;rw[s1]at z;exists z
   |_=>simp only[eL]at s2;rw[s1]at s2;exists s2
  |tup x=>
   obtain⟨p,f,rfl,z,w⟩:=s1;cases b with
   |tup y=>
    obtain⟨Q,W,B,g,Y⟩:=s2
    exists B
    rw[I.qT g z]at Y;exact A x y f k w Y e
   |ref m=>
    obtain⟨Q,B,g⟩:=s2
    exists B
    obtain⟨ds,C,_⟩:=kS e;exact(lt _ _ _ _ z g C).elim
   |_=>exists s2
  |ref i=>
   obtain⟨p,rfl,z⟩:=s1;cases b with
   |ref m=>
    obtain⟨Q,B,g⟩:=s2
    exists B
    replace e:Ev.m8 h (Ev.lJ h n) i m=some k:=e;unfold Ev.m8 at e;split at e
    .simp only[ZJ]at e;obtain⟨_,_,e⟩:=e;exact e.symm
    .rename_i Z;split at e
     .rename_i x y F G;exact absurd (hr.inj _ _ _ _ _ z g F G) Z
     .rename_i x y F G;obtain⟨p1,J,K9,q2,_⟩:=hr.ob _ _ F;obtain⟨p2,L,rK,q4,_⟩:=hr.ob _ _ G;rw[z]at J;exists J;rw[g]at L;exists L;exact absurd rfl (sR I q2 q4)
     .rename_i x y F G;obtain⟨p1,J,K9,q2,_⟩:=hr.ob _ _ F;obtain⟨p2,L,rK,q4,_⟩:=hr.ob _ _ G;rw[z]at J;exists J;rw[g]at L;exists L;exact absurd rfl (sR I q4 q2)
     ·exists e
   |tup y=>
    obtain⟨Q,W,B,g,Y⟩:=s2
    exists B
    obtain⟨ds,C,_⟩:=kS e;exact(lt _ _ _ _ g z C).elim
   |_=>exists s2
def Nf(I:Inv X pins σ H s)(hr:HR X.K H r h)(hu:A.units<cLine)(q1:dI X.K H a vs)(q2:dI X.K H b ws)(v1:aV X.K H r x vs)(v2:aV X.K H r y ws)(ih:∀a b va vb u w k,RV X.K H r a va->RV X.K H r b vb->RelV va u->RelV vb w->Ev.lJ h n a b=some k->B7 A.in1 s u w k)(e:Ev.cY (Ev.lJ h n) x y=some k):B7 A s (.ref a) (.ref b) k:=by
 obtain⟨d,J,C,_⟩:=I.tuple q1;obtain⟨f,L,F,_⟩:=I.tuple q2;have l1:=v1.length;have l2:=v2.length;have l3:=J.length;have l4:=L.length;have c:RcAt A s (.ref a) (.ref b) k/\RcNeAt A s (.ref a) (.ref b) (!k):=by
  by_cases Q:x.length=y.length
  .obtain⟨p,g,W,Z⟩:=yz v1 v2 J L ih Q e;have q:=RcAt.tuples C F hu g;have z:=RcNeAt.tuples C F hu g;have M:d.toArray.size=f.toArray.size:=by simpa using Z
   have G:((List.range (min d.toArray.size f.toArray.size)).all p&&d.toArray.size==f.toArray.size)=k:=by
    rw[<-M,Nat.min_self,W];simp
   rw[G]at q z;exact⟨q,z⟩
  .have N:=xj Q e;subst N;have P:∃p:Nat->Bool,∀j (g:j<d.toArray.size) (W:j<f.toArray.size),EqAt A.in1 s d.toArray[j] f.toArray[j] (p j):=by
    obtain⟨p,g⟩:=B9 e;refine⟨p,λj g1 g2=>?_⟩;have g1':j<d.length:=by simpa using g1
    have g2':j<f.length:=by simpa using g2
    have Y:x[j]?=some x[j]:=VW (by lia);have G:y[j]?=some y[j]:=VW (by lia);obtain⟨va,a1,a2⟩:=v1.get Y;obtain⟨vb,b1,b2⟩:=v2.get G;obtain⟨u,a3,a4⟩:=J.get a1;obtain⟨w,b3,b4⟩:=L.get b1;have eu:d.toArray[j]=u:=by
     have:=(gL a3).2;simpa using this
    have ew:f.toArray[j]=w:=by
     have:=(gL b3).2;simpa using this
    rw[eu,ew];exact(ih _ _ _ _ _ _ _ a2 b2 a4 b4 (g j _ _ Y G)).eq
   obtain⟨p,g⟩:=P;have q:=RcAt.tuples C F hu g;have z:=RcNeAt.tuples C F hu g;have M:(d.toArray.size==f.toArray.size)=false:=by
    simp only[aaz,beq_eq_false_iff_ne,ne_eq];lia
   rw[M,Bool.and_false]at q z;exact⟨q,z⟩
 by_cases B:a=b
 .subst B;rw[I.qT q2 q1]at v2;have N:k=true:=Ge I hr (n+1) (.tup x) (.tup y) (.ref a) k ⟨a,vs,rfl,q1,v1⟩ ⟨a,vs,rfl,q1,v2⟩ e;subst N;exact⟨.same _,c.1,c.2⟩
 .exact⟨.of_refs B c.1,c.1,c.2⟩
end
section
variable{X:Cx}{pins:Ψ}{σ:L2.St}{H:Hp}{s:Shared}{r:Y1}{h:Hh}
def La(I:Inv X pins σ H s)(hr:HR X.K H r h):∀(n:Nat) (A:Around) (a b:D) (va vb:V) (u w:Value) (k:Bool),A.units+n<cLine->RV X.K H r a va->RV X.K H r b vb->RelV va u->RelV vb w->Ev.lJ h n a b=some k->B7 A s u w k:=by
 intro n;induction n with
 |zero=>intro A a b va vb u w k _ _ _ _ _ e;exists e
 |succ n ih=>
  intro A a b va vb u w k hu h1 h2 C f e;have c:A.units<cLine:=by lia
  have F:=λa b va vb u w k=>ih A.in1 a b va vb u w k (by lia);have s1:=h1.shape;have s2:=h2.shape;have lst:∀{i:Nat} {v:V} {u:Value} {ds:U2},eL X.K H r (.ref i) v->RelV v u->Ev.bI h i=some ds->∃p g,u=.ref p/\PlainL s.heap p (List.toArray g):=λ{i v u ds} hv ru el=>by
   obtain⟨p,rfl,z⟩:=hv;cases ru;obtain⟨g,d⟩:=Gd I hr el z;exact⟨p,g,rfl,d⟩
  have tup:∀{ds:U2} {v:V} {u:Value},eL X.K H r (.tup ds) v->RelV v u->∃p g,u=.ref p/\s.heap.IsTuple p (List.toArray g):=λ{ds v u} hv ru=>by
   obtain⟨p,vs,rfl,z,_⟩:=hv;cases ru;obtain⟨g,_,pt,_⟩:=I.tuple z;exact⟨p,g,rfl,pt⟩
  cases a with
  |aN=>
   subst s1;cases C;cases b with
   |aN=>subst s2;cases f;exists e;exact⟨.same _,.none_none,.none_none⟩
   |bl y=>subst s2;cases f;exists e;exact⟨.none_bool _,.none_bool _,.none_bool _⟩
   |int y=>subst s2;obtain⟨t,rfl⟩:=f;exists e;exact⟨.none_int _ _,.none_int _ _,.none_int _ _⟩
   |str y=>subst s2;obtain⟨t,rfl⟩:=f;exists e;exact⟨.none_str _ _,.none_str _ _,.none_str _ _⟩
   |tup y=>obtain⟨p,g,rfl,pt⟩:=tup s2 f;exists e;exact⟨.none_tuple pt c,.none_tuple pt c,.none_tuple pt c⟩
   |ref m=>
    obtain⟨ds,B,rfl⟩:=kS e;obtain⟨p,g,rfl,d⟩:=lst s2 f B;exact⟨.none_list d.isList c,.none_list d.isList c,.none_list d.isList c⟩
  |bl x=>
   subst s1;cases C;cases b with
   |aN=>simp only[eL]at s2;subst s2;cases f;cases e;exact⟨.bool_none _,.bool_none _,.bool_none _⟩
   |bl y=>simp only[eL]at s2;subst s2;cases f;cases e;exact⟨.bool_bool _ _,.bool_bool _ _,.bool_bool _ _⟩
   |int y=>simp only[eL]at s2;subst s2;obtain⟨t,rfl⟩:=f;cases e;exact⟨.bool_int _ _ _,.bool_int _ _ _,.bool_int _ _ _⟩
   |str y=>simp only[eL]at s2;subst s2;obtain⟨t,rfl⟩:=f;cases e;exact⟨.bool_str _ _ _,.bool_str _ _ _,.bool_str _ _ _⟩
   |tup y=>obtain⟨p,g,rfl,pt⟩:=tup s2 f;cases e;exact⟨.bool_tuple _ pt c,.bool_tuple _ pt c,.bool_tuple _ pt c⟩
   |ref m=>
    obtain⟨ds,B,rfl⟩:=kS e;obtain⟨p,g,rfl,d⟩:=lst s2 f B;exact⟨.bool_list _ d.isList c,.bool_list _ d.isList c,.bool_list _ d.isList c⟩
  |int x=>
   simp only[eL]at s1;subst s1;obtain⟨t0,rfl⟩:=C;cases b with
   |aN=>simp only[eL]at s2;subst s2;cases f;cases e;exact⟨.int_none _ _,.int_none _ _,.int_none _ _⟩
   |bl y=>simp only[eL]at s2;subst s2;cases f;cases e;exact⟨.int_bool _ _ _,.int_bool _ _ _,.int_bool _ _ _⟩
   |int y=>simp only[eL]at s2;subst s2;obtain⟨t,rfl⟩:=f;cases e;exact⟨.int_int _ _ _ _,.int_int _ _ _ _,.int_int _ _ _ _⟩
   |str y=>simp only[eL]at s2;subst s2;obtain⟨t,rfl⟩:=f;cases e;exact⟨.int_str _ _ _ _,.int_str _ _ _ _,.int_str _ _ _ _⟩
   |tup y=>obtain⟨p,g,rfl,pt⟩:=tup s2 f;cases e;exact⟨.int_tuple _ _ pt c,.int_tuple _ _ pt c,.int_tuple _ _ pt c⟩
   |ref m=>
    obtain⟨ds,B,rfl⟩:=kS e;obtain⟨p,g,rfl,d⟩:=lst s2 f B;exact⟨.int_list _ _ d.isList c,.int_list _ _ d.isList c,.int_list _ _ d.isList c⟩
  |str x=>
   simp only[eL]at s1;subst s1;obtain⟨t0,rfl⟩:=C;cases b with
   |aN=>simp only[eL]at s2;subst s2;cases f;cases e;exact⟨.str_none _ _,.str_none _ _,.str_none _ _⟩
   |bl y=>simp only[eL]at s2;subst s2;cases f;cases e;exact⟨.str_bool _ _ _,.str_bool _ _ _,.str_bool _ _ _⟩
   |int y=>simp only[eL]at s2;subst s2;obtain⟨t,rfl⟩:=f;cases e;exact⟨.str_int _ _ _ _,.str_int _ _ _ _,.str_int _ _ _ _⟩
   |str y=>
    simp only[eL]at s2;subst s2;obtain⟨t,rfl⟩:=f;cases e;rw[<-Nd];exact⟨.str_str _ _ _ _,.str_str _ _ _ _,.str_str _ _ _ _⟩
   |tup y=>obtain⟨p,g,rfl,pt⟩:=tup s2 f;cases e;exact⟨.str_tuple _ _ pt c,.str_tuple _ _ pt c,.str_tuple _ _ pt c⟩
   |ref m=>
    obtain⟨ds,B,rfl⟩:=kS e;obtain⟨p,g,rfl,d⟩:=lst s2 f B;exact⟨.str_list _ _ d.isList c,.str_list _ _ d.isList c,.str_list _ _ d.isList c⟩
  |tup x=>
   cases b with
   |tup y=>
    obtain⟨p,vs,rfl,z,w1⟩:=s1;obtain⟨p',vs',rfl,G,w2⟩:=s2;cases C;cases f;exact Nf I hr c z G w1 w2 F e
   |aN=>obtain⟨p,g,rfl,pt⟩:=tup s1 C;simp only[eL]at s2;subst s2;cases f;cases e;exact⟨.tuple_none pt c,.tuple_none pt c,.tuple_none pt c⟩
   |bl y=>obtain⟨p,g,rfl,pt⟩:=tup s1 C;simp only[eL]at s2;subst s2;cases f;cases e;exact⟨.tuple_bool _ pt c,.tuple_bool _ pt c,.tuple_bool _ pt c⟩
   |int y=>obtain⟨p,g,rfl,pt⟩:=tup s1 C;simp only[eL]at s2;subst s2;obtain⟨t,rfl⟩:=f;cases e;exact⟨.tuple_int _ _ pt c,.tuple_int _ _ pt c,.tuple_int _ _ pt c⟩
   |str y=>obtain⟨p,g,rfl,pt⟩:=tup s1 C;simp only[eL]at s2;subst s2;obtain⟨t,rfl⟩:=f;cases e;exact⟨.tuple_str _ _ pt c,.tuple_str _ _ pt c,.tuple_str _ _ pt c⟩
   |ref m=>
    obtain⟨p,g,rfl,pt⟩:=tup s1 C;obtain⟨ds,B,rfl⟩:=kS e;obtain⟨p',Z,rfl,d⟩:=lst s2 f B;exact⟨.tuple_list pt d.isList c,.tuple_list pt d.isList c,.tuple_list pt d.isList c⟩
  |ref i=>
   cases b with
   |ref m=>
    replace e:Ev.m8 h (Ev.lJ h n) i m=some k:=e;unfold Ev.m8 at e;split at e
    .rename_i him;subst him;simp only[ZJ]at e;obtain⟨ds,B,rfl⟩:=e;obtain⟨p,g,rfl,d⟩:=lst s1 C B;obtain⟨p0,rfl,z⟩:=s1;obtain⟨p1,rfl,G⟩:=s2;rw[z]at G;cases G;cases C;cases f;have q:(List.range (List.toArray g).size).all (λ_=>true)=true:=by simp
     have rc:=RcAt.lists (A:=A) (e:=λ_=>true) d.isList d.isList rfl c λj _ _=>EqAt.same _;have ne:=RcNeAt.lists (A:=A) (e:=λ_=>true) d.isList d.isList rfl c λj _ _=>EqAt.same _;rw[q]at rc ne;exact⟨.same _,rc,ne⟩
    .rename_i hne;obtain⟨p0,rfl,z⟩:=s1;obtain⟨p1,rfl,G⟩:=s2;cases C;cases f;split at e
     .rename_i x y P Q;obtain⟨q0,J,K9,M,W⟩:=hr.ob _ _ P;obtain⟨q4,L,rK,N,Y⟩:=hr.ob _ _ Q;rw[z]at J;cases J;rw[G]at L;cases L;exact uG I c (.of M) (.of N) W Y (λw=>hne (hr.inj _ _ _ _ _ z (by rw[w];exact G) P Q)) F e
     .rename_i x y P Q;obtain⟨q0,J,K9,M,W⟩:=hr.ob _ _ P;obtain⟨q4,L,rK,N,Y⟩:=hr.ob _ _ Q;rw[z]at J;cases J;rw[G]at L;cases L;exact uG I c (Lb M) (.of N) W Y (sR I M N) F e
     .rename_i x y P Q;obtain⟨q0,J,K9,M,W⟩:=hr.ob _ _ P;obtain⟨q4,L,rK,N,Y⟩:=hr.ob _ _ Q;rw[z]at J;cases J;rw[G]at L;cases L;exact uG I c (.of M) (Lb N) W Y (sR I N M).symm F e
     .cases e
   |aN=>obtain⟨ds,B,rfl⟩:=kS e;obtain⟨p,g,rfl,d⟩:=lst s1 C B;simp only[eL]at s2;subst s2;cases f;exact⟨.list_none d.isList c,.list_none d.isList c,.list_none d.isList c⟩
   |bl y=>obtain⟨ds,B,rfl⟩:=kS e;obtain⟨p,g,rfl,d⟩:=lst s1 C B;simp only[eL]at s2;subst s2;cases f;exact⟨.list_bool _ d.isList c,.list_bool _ d.isList c,.list_bool _ d.isList c⟩
   |int y=>obtain⟨ds,B,rfl⟩:=kS e;obtain⟨p,g,rfl,d⟩:=lst s1 C B;simp only[eL]at s2;subst s2;obtain⟨t,rfl⟩:=f;exact⟨.list_int _ _ d.isList c,.list_int _ _ d.isList c,.list_int _ _ d.isList c⟩
   |str y=>obtain⟨ds,B,rfl⟩:=kS e;obtain⟨p,g,rfl,d⟩:=lst s1 C B;simp only[eL]at s2;subst s2;obtain⟨t,rfl⟩:=f;exact⟨.list_str _ _ d.isList c,.list_str _ _ d.isList c,.list_str _ _ d.isList c⟩
   |tup y=>
    obtain⟨ds,B,rfl⟩:=kS e;obtain⟨p,g,rfl,d⟩:=lst s1 C B;obtain⟨p',Z,rfl,pt⟩:=tup s2 f;exact⟨.list_tuple d.isList pt c,.list_tuple d.isList pt c,.list_tuple d.isList pt c⟩
where
 Lb {K:Φ} {H:Hp} {a:Addr} {vs:T1} (q:DJ K H a vs):gK K H a vs:=by
  rcases q with ⟨ob,e2⟩|e2
  .exact .inl (.inr ⟨ob,e2⟩)
  .exact .inr e2
end
theorem Good.units{sc:Scope}(g:Good G n sc N df X):X.A.units+1+Ev.deep<cLine:=by
 have:=g.room.un;have:Ev.deep=20:=rfl;lia
section
variable{G:Tb}{n:Nat}{sc:Scope}{N:X9}{df:Bool}{X:Cx}
def Ca{pins:Ψ}{σ:L2.St}{H:Hp}{s:Shared}{Q:VK}{r:Y1}{h:Hh}{k:Bool}(I:Inv X pins σ H s)(hr:HR X.K H r h)(q:Res X.K r H h (.bl k) Q):EP X pins σ Q (.bool k) s:=
 ⟨.bl k,H,I,rfl,q.here rfl hr⟩
def Lc(g:Good G n sc N df X):dY X (compareOp .Eq) (iY X.K (g8 .eq)):=by
 intro c s σ H x y v u Q I rx ry q;obtain⟨r,h,a,b,d,B,f,j,p,e,q⟩:=q;obtain⟨k,z,rfl,rfl⟩:=pe e;have:=g.units;exact(La I f Ev.deep X.A a b x y v u k (by lia) j p rx ry z).rc _ _ _ _ (Ca I f q)
def Vj(g:Good G n sc N df X):dY X (compareOp .NotEq) (iY X.K (g8 .ne)):=by
 intro f s σ H x y v u Q I rx ry q;obtain⟨r,h,a,b,d,F,j,p,z,e,q⟩:=q;obtain⟨k,c,rfl,rfl⟩:=pe e;have:=g.units
 delta Ev.cop at c;dsimp only at c;simp only[ZJ]at c
 obtain⟨B,C,rfl⟩:=c;exact(La I j Ev.deep X.A a b x y v u B (by lia) p z rx ry C).ne _ _ _ _ (Ca I j q)
def vv{p:Int->Int->Bool}(ho:dY X (compareOp op) (vc λi j=>.bl (p i j)))(hc:∀a b h k,Ev.cop o a b h=some k->∃i j,a=.int i/\b=.int j/\k=p i j):dY X (compareOp op) (iY X.K (g8 o)):=by
 intro c s σ H x y v u Q I rx ry q;obtain⟨r,h,a,b,d,B,f,g,z,e,q⟩:=q;obtain⟨k,A,rfl,rfl⟩:=pe e;obtain⟨i,j,rfl,rfl,rfl⟩:=hc _ _ _ _ A;exact ho c s σ H x y v u Q I rx ry ⟨i,j,g,z,q.here rfl f⟩
def Ld:dY X (compareOp .Lt) (iY X.K (g8 .lt)):=vv UU λa b h k e=>by
 cases a<;>cases b <;> (delta Ev.cop at e;dsimp only at e)<;>first | (exists e;exact⟨_,_,rfl,rfl,rfl⟩) | exists e
def Vk:dY X (compareOp .LtE) (iY X.K (g8 .le)):=vv UW λa b h k e=>by
 cases a<;>cases b <;> (delta Ev.cop at e;dsimp only at e)<;>first | (cases e;exact⟨_,_,rfl,rfl,rfl⟩)|cases e
def Le:dY X (compareOp .Gt) (iY X.K (g8 .gt)):=vv UX λa b h k e=>by
 cases a<;>cases b <;> (delta Ev.cop at e;dsimp only at e)<;>first | (exists e;exact⟨_,_,rfl,rfl,rfl⟩) | exists e
def Vl:dY X (compareOp .GtE) (iY X.K (g8 .ge)):=vv UY λa b h k e=>by
 cases a<;>cases b <;> (delta Ev.cop at e;dsimp only at e)<;>first | (exists e;exact⟨_,_,rfl,rfl,rfl⟩) | exists e
end
section
variable{n:Nat}{X:Cx}
def xq(a b:Θ):aI a++aI b=aI (a++b):=by
 show Str.append (aI a) (aI b)=_;simp[Str.append,aI]
def Ng{pins:Ψ}{σ:L2.St}{H:Hp}{s:Shared}{Q:Ξ}{E:Ξ}(I:Inv X pins σ H s){a b:Addr}{Z:T1}(h1:dI X.K H a [])(h2:dI X.K H b Z)(q:Q (.ref b) s):wpAny (model X.prog X.w) X.A (binaryOp .Add (.ref a) (.ref b)) Q E s:=by
 obtain⟨G,z,f,_⟩:=I.tuple h1;obtain⟨J,L,g,_⟩:=I.tuple h2;cases z;obtain⟨⟨B,C,p,F⟩,r,x,n,y⟩:=id f;obtain⟨⟨YV,h,j,k⟩,c,d,n2,e⟩:=id g;simp only at x y d e;subst x y d e;exact concat_meets ⟨_,r,rfl⟩ ⟨_,c,rfl⟩ ac8 seq_tuple_add acC acq (acn _ _)
  (tuple_addW0 a b _ _ n n2 C h F k (by simp)) ⟨r,c,q⟩
def QK:dY X (binaryOp .Add) (iY X.K (Ev.bO .add)):=by
 intro c s σ H x y v u Q I rx ry q;obtain⟨r,h,a,b,d,h',f,Y,Z,e,q⟩:=q;have s1:=Y.shape;have s2:=Z.shape;cases a with
 |int i=>cases b with
  |int j=>cases e;exact Px c s σ H x y v u Q I rx ry ⟨i,j,s1,s2,q.here rfl f⟩
  |_=>exists e
 |str i=>cases b with
  |str j=>
   delta Ev.bO at e;dsimp only at e
   split at e
   .rename_i hz;cases e;refine Ds c s σ H x y v u Q I rx ry ⟨aI i,aI j,s1,s2,by exact hz,?_⟩;rw[xq];exact q.here ⟨rfl,by rw[aaE];exact hz⟩ f
   ·exists e
  |_=>exists e
 |tup i=>cases b with
  |tup j=>
   delta Ev.bO at e;dsimp only at e
   split at e
   .rename_i hz
    exists e
    obtain⟨B,g,rfl,k,F⟩:=s1;obtain⟨z,C,rfl,A,G⟩:=s2;have J:=F.length;have L:=G.length;cases g with
    |nil=>
     cases rx;cases ry;refine Ng I k A ⟨.ref z,H,I,rfl,q.here ?_ f⟩;have:i=[]:=by cases i with|nil=>rfl|cons _ _=>simp at J
     subst this;exact⟨z,C,rfl,A,by simpa using G⟩
    |cons M g=>
     refine MQ c s σ H _ _ v u Q I rx ry ⟨B,z,M :: g,C,rfl,rfl,k,A,by simp,by rw[J,L];exact hz,λN=>?_,λN p hp=>?_⟩
     .subst N;have:j=[]:=by cases j with|nil=>rfl|cons _ _=>simp at L
      subst this;exact q.here ⟨B,M :: g,rfl,k,by simpa using F⟩ f
     .exact q.tup (F.append G) f hp
   ·exists e
  |_=>exists e
 |ref i=>cases b with
  |ref j=>
   delta Ev.bO at e;dsimp only at e
   split at e
   .rename_i ds es e1 e2;obtain⟨B,rfl,k⟩:=s1;obtain⟨z,rfl,A⟩:=s2;cases rx;cases ry;obtain⟨p1,P,g,g2,g3⟩:=f.ob _ _ e1;obtain⟨p2,W,C,k2,k3⟩:=f.ob _ _ e2;rw[k]at P;cases P;rw[A]at W;cases W;obtain⟨hz,q2⟩:=q.lst e (g3.append k3) f;exact PV c s σ H (.ref B) (.ref z) _ _ Q I rfl rfl ⟨_,_,g,C,rfl,rfl,g2,k2,by rw[aaE]at hz;exact hz,q2⟩
   .cases e
  |_=>cases e
 |_=>cases b<;>cases e
def QL:dY X (binaryOp .Sub) (iY X.K (Ev.bO .sub)):=by
 intro c s σ H x y v u Q I rx ry q;obtain⟨r,h,a,b,d,p,f,g,k,e,q⟩:=q;cases a with
 |int i=>cases b with
  |int j=>cases e;exact Py c s σ H x y v u Q I rx ry ⟨i,j,g,k,q.here rfl f⟩
  |_=>exists e
 |_=>cases b <;> exists e
def Nh:dY X (binaryOp .FloorDiv) (iY X.K (Ev.bO .fdiv)):=by
 intro c s σ H x y v u Q I rx ry q;obtain⟨r,h,a,b,d,p,f,g,k,e,q⟩:=q;cases a with
 |int i=>cases b with
  |int j=>
   delta Ev.bO at e;dsimp only at e
   split at e
   .rename_i hz;cases e;exact MC c s σ H x y v u Q I rx ry ⟨i,j,g,k,hz,q.here rfl f⟩
   ·exists e
  |_=>exists e
 |_=>cases b <;> exists e
def QM:dY X (binaryOp .Mod) (iY X.K (Ev.bO .mod)):=by
 intro c s σ H x y v u Q I rx ry q;obtain⟨r,h,a,b,d,p,f,g,k,e,q⟩:=q;cases a with
 |int i=>cases b with
  |int j=>
   delta Ev.bO at e;dsimp only at e
   split at e
   .rename_i hz;cases e;exact PB c s σ H x y v u Q I rx ry ⟨i,j,g,k,hz,q.here rfl f⟩
   ·exists e
  |_=>exists e
 |_=>cases b <;> exists e
end
section
variable{X:Cx}
def QN(n:Nat)(i:Int):Ev.fO n i=L2.fO n i:=rfl
def QO{α:Type}(xs:List α)(i:Int):Ev.bz xs i=L2.bz xs i:=rfl
theorem aV.bz{K:Φ}(w:aV K H r ds vs)(e:Ev.bz ds i=some d):∃v,L2.bz vs i=some v/\RV K H r d v:=by
 obtain⟨j,a,b⟩:=kA e;obtain⟨v,c,f⟩:=w.get b;exact⟨v,by unfold L2.bz;rw[w.length,<-QN,a];exact c,f⟩
def Vm:BO X (iY X.K Ql):=by
 intro value f g s σ H x y v u Q I rx ry q hs;obtain⟨r,h,a,b,d,W,j,k,L,e,q⟩:=q;obtain⟨e,rfl⟩:=Ev.aH e;cases b with
 |int i=>
  have s2:=L.shape;cases a with
  |tup ds=>
   obtain⟨p,A,rfl,z,w⟩:=k.shape;obtain⟨B,C,F⟩:=w.bz e;exact PN value f g s σ H _ y v u Q I rx ry ⟨p,A,i,B,rfl,s2,z,C,q.here F j⟩ hs
  |str l=>
   obtain⟨rfl,M⟩:=k;simp only[Ev.fy,ZJ]at e;obtain⟨c,G,rfl⟩:=e;exact PR value f g s σ H _ y v u Q I rx ry ⟨aI l,i,c,rfl,s2,by exact M,by simpa[aI,QO]using G,q.here ⟨rfl,by show 1<=sizeLine;decide⟩ j⟩ hs
  |ref m=>
   simp only[Ev.fy,aab]at e;obtain⟨ds,G,N⟩:=e;obtain⟨p,rfl,z⟩:=k.shape;obtain⟨Y,A,J,P,w⟩:=j.read G;rw[z]at J;cases J;obtain⟨B,C,F⟩:=w.bz N;exact BP value f g s σ H _ y v u Q I rx ry ⟨p,A,i,B,rfl,s2,P,C,q.here F j⟩ hs
  |_=>exists e
 |_=>cases a <;> exists e
theorem aV.cut{K:Φ}(w:aV K H r ds vs)(lo hi:Option Int):aV K H r (Ev.cut ds lo hi) (wL vs lo hi):=by
 unfold Ev.cut wL;rw[w.length];exact(w.drop _).take _
def yC{α:Type}(xs:List α)(lo hi:Option Int)(h:Ev.aY xs.length 0 lo=0/\Ev.aY xs.length xs.length hi=xs.length):Ev.cut xs lo hi=xs:=by
 unfold Ev.cut;rw[h.1,h.2];simp
def Ni{α:Type}(xs:List α)(lo hi:Option Int):(Ev.cut xs lo hi).length<=xs.length:=by
 unfold Ev.cut;rw[abk,acF];lia
def y9{E:Ξ}{lo hi:Option Int}(z:IsTup s.heap t items)(I:s.heap.IsSliceOf sl vl vu .none)(pl:IsPart vl lo)(pu:IsPart vu hi)(Z:HT.aY items.size 0 lo=0/\HT.aY items.size items.size hi=items.size)(h:Q (.ref t) s):wpAny (model prog w) A (getItem (.ref t) (.ref sl)) Q E s:=by
 obtain⟨d,b,c,e⟩:=id I;have PL:s.TypeIs (.ref sl) "slice" :=⟨d,b,c⟩
 unfold getItem;try with_reducible refine ab0 ?_
 first|refine gV (ZM ?_)|skip
 refine gV (wpAny_sequenceKey z.typeIs (by decide) ?_);refine gV (abN (name:=Str.ofString "__getitem__") z.typeIs abt
  (abK abt z.typeIs entry_tuple_getitem ?_ (args_tuple_getitem _ _)))
 show wpAny _ _ (Builtin.Tuple.tupleItemsOf (.ref t) >>= _) _ _ s;refine gV (tupleItemsOf_ z ?_);refine gV (ac3 PL ?_);refine gV (HT.m5 I pl pu ?_);have a:(((HT.aY items.size 0 lo:Nat):Int)==0&&(1:Int)==1&&(HT.aY items.size items.size hi - HT.aY items.size 0 lo)==items.size)=true:=by
  rw[Z.1,Z.2];simp
 show wpAny _ _ (if (((HT.aY items.size 0 lo:Nat):Int)==0&&(1:Int)==1&&(HT.aY items.size items.size hi - HT.aY items.size 0 lo)==items.size)=true then _ else _) _ _ s;rw[OL a];refine gV (m:=Builtin.Tuple.tupleIsExact (.ref t)) (gV (ac3 z.typeIs (ZM ?_)));show wpAny _ _ (if ((Value.type "tuple" ==Value.type "tuple")=true)then _ else _) _ _ s;rw[OL (by decide)];exact gV (acY (gV (ZM (ZM ⟨_,rfl,ZM h⟩))))
def Gf(lo hi:Option Int)(n:Nat):Builtin.Str.strSliceIndices lo hi 1 n=(List.range (Ev.aY n n hi - Ev.aY n 0 lo)).map (λk=>Ev.aY n 0 lo+k):=by
 have QS:∀o:Option Int,((match o with|none=>0|some i=>max 0 (min (if i<0 then i+n else i) n)))=((Ev.aY n 0 o):Int):=λo=>by
  cases o with
  |none=>rfl
  |some i=>simp only[Ev.aY];split<;>lia
 have QT:∀o:Option Int,((match o with|none=>n|some i=>max 0 (min (if i<0 then i+n else i) n)))=((Ev.aY n n o):Int):=λo=>by
  cases o with
  |none=>rfl
  |some i=>simp only[Ev.aY];split<;>lia
 have e:Builtin.Str.strSliceIndices lo hi 1 n=sliceRange (match lo with|none=>0|some i=>max 0 (min (if i<0 then i+n else i) n)) (match hi with|none=>n|some i=>max 0 (min (if i<0 then i+(n:Int)else i) (n:Int))) 1:=by
  unfold Builtin.Str.strSliceIndices;cases lo<;>cases hi<;>simp
 rw[e,QS,QT,sliceRange_one]
def QU(l:Θ)(lo hi:Option Int):((Builtin.Str.strSliceIndices lo hi 1 (aI l).length).filterMap ((aI l).cps[·]?)).toArray=(Ev.cut l lo hi).toArray:=by
 rw[jq,Gf,pick_run];simp[aI,Ev.cut]
def QV:m6 X (P7 X.K):=by
 intro b s σ H x v vl vu lo hi sl Q I rx hs pl pu q;obtain⟨r,h,a,d,h',y,C,e,q⟩:=q;cases a with
 |tup ds=>
  exists e
  obtain⟨p,c,rfl,z,w⟩:=C.shape;by_cases G:HT.aY c.length 0 lo=0/\HT.aY c.length c.length hi=c.length
  .cases rx;obtain⟨us,pv,pt,hz⟩:=I.tuple z;have Z:=pv.length;have J:Ev.aY ds.length 0 lo=0/\Ev.aY ds.length ds.length hi=ds.length:=by rw[<-w.length];exact G
   refine⟨"tuple",_,PyProof.Rows.slot_tuple_getitem.lookup,pt.typeIs,?_⟩;refine y9 pt hs pl pu (by rw[aaz,<-Z];exact G) ⟨.ref p,H,I,rfl,q.here ?_ y⟩;rw[yC ds lo hi J];exact⟨p,c,rfl,z,w⟩
  .exact PM b s σ H _ v vl vu lo hi sl Q I rx hs pl pu ⟨p,c,rfl,z,G,λp' L=>q.tup (w.cut lo hi) y L⟩
 |str l=>
  obtain⟨rfl,Z⟩:=C;obtain⟨t,rfl⟩:=rx
  exists e
  refine⟨"str",_,PySem.F.slot_str_getitem.lookup,typeIs_str s _ t,?_⟩;have f:∀{v:Value} {o:Option Int},IsPart v o->∃p:Option (Int×Tok),v=partValue p/\p.map (·.1)=o:=λ{v o} L=>by
   cases L with
   |none=>exact⟨none,rfl,rfl⟩
   |int i t=>exact⟨some (i,t),rfl,rfl⟩
  obtain⟨g,M,e2⟩:=f pl;obtain⟨j,e3,e4⟩:=f pu;subst M e3;obtain⟨os,N,P,W⟩:=hs;refine wpAny_getItem_str_slice (st:=none) ⟨os,N,P,W⟩ rfl ?_;have Lf:((slicePicked (aI l) g j none).filterMap ((aI l).cps[·]?)).toArray=(Ev.cut l lo hi).toArray:=by
   show((Builtin.Str.strSliceIndices (g.map (·.1)) (j.map (·.1)) 1 (aI l).length).filterMap ((aI l).cps[·]?)).toArray=_;rw[e2,e4];exact QU l lo hi
  have hcl:=Ni l lo hi;refine post_val_or_made (λ_=>?_) λt' k=>?_
  .rw[Lf];show(Ev.cut l lo hi).toArray.size<=sizeLine;simp only[aaz];lia
  .have A:(if (((none:Option (Int×Tok)).map (·.1)).getD 1==1&&(slicePicked (aI l) g j none).length==(aI l).length)=true then aI l else (⟨((slicePicked (aI l) g j none).filterMap ((aI l).cps[·]?)).toArray⟩:Str))=aI (Ev.cut l lo hi):=by
    split
    .rename_i hc;rw[Bg]at hc;have B:(slicePicked (aI l) g j none).length=(aI l).length:=eq_of_beq hc.2;have Y:(slicePicked (aI l) g j none).length=Ev.aY l.length l.length hi - Ev.aY l.length 0 lo:=by
      show(Builtin.Str.strSliceIndices (g.map (·.1)) (j.map (·.1)) 1 (aI l).length).length=_;rw[e2,e4,Gf,jq];simp
     rw[jq]at B;have hb:Ev.aY l.length l.length hi<=l.length:=HT.Fd _ _ (aaB _) hi;have ha:Ev.aY l.length 0 lo<=l.length:=HT.Fd _ _ (abu _) lo;rw[yC l lo hi ⟨by lia,by lia⟩]
    .rw[Lf];rfl
   rw[A];exact⟨.str (aI (Ev.cut l lo hi)),H,I.tok _,⟨_,rfl⟩,q.here ⟨rfl,by lia⟩ y⟩
 |ref m=>
  simp only[Ev.fQ]at e;split at e
  .rename_i ds M;obtain⟨p,rfl,z⟩:=C.shape;obtain⟨p',c,z',q1,w⟩:=y.read M;rw[z]at z';cases z';obtain⟨hz,q2⟩:=q.lst e (w.cut lo hi) y;exact MS b s σ H _ v vl vu lo hi sl Q I rx hs pl pu ⟨p,c,rfl,q1,q2⟩
  ·exists e
 |_=>exists e
theorem zY:∀(k:Nat) (l:Θ) (z:Θ),(List.replicate k l.toArray).foldl (·++·) z.toArray=(z++Ev.rep k l).toArray
 |0,l,z=>by simp[Ev.rep]
 |k+1,l,z=>by
  rw[aaK,aba];have:z.toArray++l.toArray=(z++l).toArray:=by simp
  rw[this,zY k l (z++l)];simp[Ev.rep,aaK]
def sS{α:Type}(k:Nat)(l:List α):(Ev.rep k l).length=k*l.length:=by
 exact len_rep l k
def Nj(h:0<=k):Txt.mul (aI l) k=aI (Ev.rep k.toNat l):=by
 unfold Txt.mul;by_cases b:k<1
 .have:k=0:=by lia
  subst this;rfl
 .rw[aaH b];split
  .rename_i a;rw[abj]at a;rcases a with a|a
   .have:k=1:=by simpa using a
    subst this;simp[Ev.rep]
   .rw[jq]at a;have:l=[]:=by cases l with|nil=>rfl|cons _ _=>simp at a
    subst this;simp[Ev.rep,aI]
  .have:=zY k.toNat l [];exact aaL Str.mk this
def nW(h1:a<=1000)(h2:b<=1000):a*b<=sizeLine:=aaN (acQ h1 h2) (by decide)
def Nk{pins:Ψ}{σ:L2.St}{H:Hp}{s:Shared}{Q:VK}(I:Inv X pins σ H s){l:Θ}{k:Int}{t u:Tok}(z:0<=k/\k<=1000/\l.length<=1000)(q:Q (.str (aI (Ev.rep k.toNat l))) H):
  wpAny (model X.prog X.w) X.A (binaryOp .Mult (.str (aI l) t) (.int k u)) (EP X pins σ Q) X.xe s:=by
 have a:MulOk (aI l) k:=mulOk_of 1000 1000 (by rw[jq];exact z.2.2) (by exact z.2.1) (by lia) (by decide) (by decide);refine SB.mul a λb c=>?_;rw[Nj z.1];exact⟨.str _,H,I.tok _,⟨_,rfl⟩,q⟩
def uH:fillsNumberSlot (.type "tuple") "mul" = pure false:=
 PySem.fillsNumberSlot_seq PySem.F.slot_tuple_mul.lookup (by decide) PySem.F.slot_tuple_rmul.lookup (by decide)
def zZ:seqRepeat? (.type "tuple")=pure (some (.builtin "tuple.__mul__")):=by
 rfl
def DS(a:Int)(t:Tok)(l:Addr)(z:Array Value)(n:Nat)(dd:Option Addr)(sl:Array (Option Value)):
  Meets (Builtin.«int.__rmul__» ⟨[.int a t,.ref l],[]⟩) (λ_ R s=>s.heap.get? l=some { cls:=.type "tuple",dict:=dd,data:=.seq z n,slots:=sl }/\R (.ok (.ret Value.notImplemented)) s):=
 .of_wp λprog w A R s h=>by obtain⟨b,g,d,tk,c⟩:=s;obtain⟨e,h⟩:=h;wp_walk;exact⟨_,rfl,h⟩
def DT(l:Addr)(z:Array Value)(n:Nat)(dd:Option Addr)(sl:Array (Option Value))(k:Int)(u:Tok)(h1:¬ (decide (k < -2 ^ 63) ||decide (k≥2 ^ 63))=true)(I:(z.isEmpty ||k==1)=true):
  Meets (Builtin.«tuple.__mul__» ⟨[.ref l,.int k u],[]⟩) (λ_ R s=>s.heap.get? l=some { cls:=.type "tuple",dict:=dd,data:=.seq z n,slots:=sl }/\R (.ok (.ret (.ref l))) s):=
 .of_wp λprog w A R s h=>by obtain⟨b,g,d,tk,c⟩:=s;obtain⟨a,h⟩:=h;have f1:=adf;wp_walk using abh a;rw[aaH h1];wp_walk using abh a;exact⟨_,rfl,h⟩
def DU(l:Addr)(z:Array Value)(n:Nat)(dd:Option Addr)(sl:Array (Option Value))(k:Int)(u:Tok)(h1:¬ (decide (k < -2 ^ 63) ||decide (k≥2 ^ 63))=true)(I:¬ (z.isEmpty ||k==1)=true)(Z:(decide (k<=0) ||z.isEmpty)=true):
  Meets (Builtin.«tuple.__mul__» ⟨[.ref l,.int k u],[]⟩) (λ_ R s=>s.heap.get? l=some { cls:=.type "tuple",dict:=dd,data:=.seq z n,slots:=sl }/\R (.ok (.ret (Value.ref s.heap.objs.size))) { s with heap:=s.heap.push { cls:=Value.type "tuple",data:=Data.seq #[]},toks:=s.toks }):=
 .of_wp λprog w A R s h=>by obtain⟨b,g,d,tk,c⟩:=s;obtain⟨a,h⟩:=h;have f1:=adf;wp_walk using abh a;rw[aaH h1];wp_walk using abh a;exact⟨_,rfl,h⟩
def DV(l:Addr)(z:Array Value)(n:Nat)(dd:Option Addr)(sl:Array (Option Value))(k:Int)(u:Tok)(h1:¬ (decide (k < -2 ^ 63) ||decide (k≥2 ^ 63))=true)(h3:¬ (z.isEmpty ||k==1)=true)(h4:¬ (decide (k<=0) ||z.isEmpty)=true)(I:¬ (z.size*k > (2 ^ 63 - 1) / 8))(h6:¬ Builtin.Tuple.tupleTooMany (z.size*k)=true)(Z:(List.foldl (λx1 x2=>x1++x2) #[] (List.replicate k.toNat z)).size<=sizeLine):
  Meets (Builtin.«tuple.__mul__» ⟨[.ref l,.int k u],[]⟩) (λ_ R s=>s.heap.get? l=some { cls:=.type "tuple",dict:=dd,data:=.seq z n,slots:=sl }/\R (.ok (.ret (Value.ref s.heap.objs.size))) { s with heap:=s.heap.push { cls:=Value.type "tuple",data:=Data.seq (List.foldl (λx1 x2=>x1++x2) #[] (List.replicate k.toNat z))},toks:=s.toks }):=
 .of_wp λprog w A R s h=>by obtain⟨b,g,d,tk,c⟩:=s;obtain⟨a,h⟩:=h;have f1:=adf;wp_walk using abh a;rw[aaH h1];wp_walk using abh a;rw[aaH I];wp_walk using abh a;exact⟨_,rfl,h⟩
theorem yD:∀(k:Nat) (l z:Y2),(List.replicate k l.toArray).foldl (·++·) z.toArray=(z++Ev.rep k l).toArray
 |0,l,z=>by simp[Ev.rep]
 |k+1,l,z=>by
  rw[aaK,aba];have:z.toArray++l.toArray=(z++l).toArray:=by simp
  rw[this,yD k l (z++l)];simp[Ev.rep,aaK]
def Nl{pins:Ψ}{σ:L2.St}{H:Hp}{s:Shared}{Q:VK}(I:Inv X pins σ H s){p:Addr}{vs:T1}{k:Int}{u:Tok}(Z:0<=k/\k<=1000/\vs.length<=1000)(hp:dI X.K H p vs)(q1:Ev.rep k.toNat vs=vs->Q (.ref p) H)(q2:∀p',H p'=none->Q (.ref p') (upd H p' (.tup (Ev.rep k.toNat vs)))):
  wpAny (model X.prog X.w) X.A (binaryOp .Mult (.ref p) (.int k u)) (EP X pins σ Q) X.xe s:=by
 obtain⟨a,pv,pt,hz⟩:=I.tuple hp;obtain⟨⟨cls,g,data,h⟩,d,x,n,y⟩:=id pt;simp only at x y;subst x y;have N:=pv.length;have j:¬ (decide (k < -2 ^ 63) ||decide (k≥2 ^ 63))=true:=by simp;lia
 refine ac0 (T:="tuple") (U:="int") (by decide) ⟨_,d,rfl⟩ (λG=>acZ G k u) uH PySem.F.fills_int_mul adu zZ PySem.F.slot_int_index.lookup
  (abO adu (acZ s k u) PySem.F.entry_int_rmul (PySem.F.args_int_rmul_2 _ _) (DS k u p a.toArray n g h) ⟨d,rfl,⟨_,d,rfl⟩,?_⟩)
 have z:∀m:Nat,(Ev.rep m a).length=m*a.length:=λm=>sS m a;by_cases c:(a.toArray.isEmpty ||k==1)=true
 .refine abO acB ⟨_,d,rfl⟩ acp (acm _ _) (DT p a.toArray n g h k u j c) ⟨d,?_⟩;refine⟨.ref p,H,I,rfl,q1 ?_⟩;rw[abj]at c;rcases c with c|c
  .have:a=[]:=by simpa using c
   subst this;cases pv;simp[Ev.rep]
  .have:k=1:=by simpa using c
   subst this;simp[Ev.rep]
 .have laid:∀m:Nat,m=k.toNat->EP X pins σ Q (.ref s.heap.objs.size) { s with heap:=s.heap.push { cls:=.type "tuple",data:=.seq (Ev.rep m a).toArray }}:=λm B=>by
   subst B;refine⟨.ref s.heap.objs.size,_,I.laid (t':=s.toks) (o:=.tup (Ev.rep k.toNat vs)) (λb P q=>aaa _ q) (aaB _) ?_,rfl,q2 _ (I.hok.fresh (aaB _))⟩;exact⟨by rw[sS];exact nW (by lia) Z.2.2,_,pv.rep k.toNat,IsTup.new _ _⟩
  by_cases f:(decide (k<=0) ||a.toArray.isEmpty)=true
  .refine abO acB ⟨_,d,rfl⟩ acp (acm _ _) (DU p a.toArray n g h k u j c f) ⟨d,?_⟩;have r:k=0:=by
    rw[abj]at f c;rcases f with f|f
    .have:k<=0:=aa7 f;lia
    .exact absurd (.inl f) c
   have:=laid 0 (by rw[r];rfl);exact this
  .have B:a.toArray.size*k.toNat<=1000000:=by
    rw[aaz];exact acQ (by lia:a.length<=1000) (by lia:k.toNat<=1000)
   have J:(a.toArray.size:Int)*k<=1000000:=by
    have e:(a.toArray.size:Int)*k=((a.toArray.size*k.toNat:Nat):Int):=by
     rw[Int.natCast_mul,Int.toNat_of_nonneg Z.1]
    rw[e];lia
   have C:List.foldl (λL M=>L++M) #[] (List.replicate k.toNat a.toArray)=(Ev.rep k.toNat a).toArray:=by
    have:=yD k.toNat a [];simpa using this
   refine abO acB ⟨_,d,rfl⟩ acp (acm _ _) (DV p a.toArray n g h k u j c f (by lia) ?_ ?_) ⟨d,?_⟩
   .unfold Builtin.Tuple.tupleTooMany;simp only[abc];have:(sizeLine:Int)=16777216:=by rw[abQ];rfl
    lia
   .rw[C];simp only[aaz];rw[sS];exact nW (by lia) (by lia)
   .rw[C];exact laid _ rfl
def QW:dY X (binaryOp .Mult) (iY X.K (Ev.bO .mul)):=by
 intro c s σ H x y v u Q I rx ry q;obtain⟨r,h,a,b,d,Y,f,g,F,e,q⟩:=q;cases b with
 |int k=>
  have s2:=F.shape;subst s2;cases a with
  |int i=>
   delta Ev.bO at e;dsimp only at e
   split at e
   .rename_i hz;cases e;refine Pz c s σ H x _ v u Q I rx ry ⟨i,k,g,rfl,?_,q.here rfl f⟩;unfold Ev.cK at hz;simp only[abj,Bg,abc]at hz;exact hz
   ·exists e
  |str l=>
   delta Ev.bO at e;dsimp only at e
   split at e
   .rename_i hz
    exists e
    obtain⟨rfl,Z⟩:=g;obtain⟨t,rfl⟩:=rx;obtain⟨G,rfl⟩:=ry;exact Nk I hz (q.here ⟨rfl,by rw[sS];exact nW (by lia) hz.2.2⟩ f)
   ·exists e
  |tup ds=>
   delta Ev.bO at e;dsimp only at e
   split at e
   .rename_i hz
    exists e
    obtain⟨p,j,rfl,z,w⟩:=g.shape;cases rx;obtain⟨G,rfl⟩:=ry;refine Nl I ⟨hz.1,hz.2.1,by rw[w.length];exact hz.2.2⟩ z (λA=>q.here ⟨p,j,rfl,z,?_⟩ f) λJ L=>q.tup (w.rep k.toNat) f L;have:=w.rep k.toNat;rw[A]at this;exact this
   ·exists e
  |ref i=>
   delta Ev.bO at e;dsimp only at e
   split at e
   .rename_i ds M;split at e
    .rename_i hz;obtain⟨p,rfl,z⟩:=g.shape;obtain⟨J,B,j,N,C⟩:=f.ob _ _ M;rw[z]at B;cases B;obtain⟨P,W⟩:=q.lst e (C.rep k.toNat) f;exact PX c s σ H (.ref p) _ v u Q I rx ry ⟨p,k,j,rfl,rfl,N,by lia,by lia,nW (by rw[C.length];exact hz.2.2) (by lia),W⟩
    ·exists e
   ·exists e
  |_=>exists e
 |_=>cases a <;> exists e
end
section
variable{X:Cx}
theorem Cb{K:Φ}:∀{ds:U2}{is:Q1}{vs:T1}{us:Y2},Ev.intsOf ds=some is->aV K H r ds vs->Vals vs us->IntsAre us is
 |[],bs,vs,us,e,w,p=>by
  cases e;subst w;cases p;exact .nil
 |d :: ds,bs,vs,us,e,w,p=>by
  cases d with
  |int b=>
   simp only[Ev.intsOf,ZJ]at e;obtain⟨a,c,rfl⟩:=e;obtain⟨v,j,rfl,rfl,f⟩:=w;cases p with
   |cons g h=>
    obtain⟨t,rfl⟩:=g;exact .cons _ _ (Cb c f h)
  |_=>cases e
theorem Cc{K:Φ}:∀{ds:U2}{ss:Γ}{vs:T1}{us:Y2},Ev.strsOf ds=some ss->aV K H r ds vs->Vals vs us->StrsAre us (ss.map aI)/\∀l∈ss,l.length<=sizeLine
 |[],bs,vs,us,e,w,p=>by
  cases e;subst w;cases p;exact⟨.nil,λl h=>nomatch h⟩
 |d :: ds,bs,vs,us,e,w,p=>by
  cases d with
  |str b=>
   simp only[Ev.strsOf,ZJ]at e;obtain⟨a,c,rfl⟩:=e;obtain⟨v,A,rfl,⟨rfl,f⟩,g⟩:=w;cases p with
   |cons j k=>
    obtain⟨t,rfl⟩:=j;obtain⟨q,x⟩:=Cc c g k;refine⟨.cons _ _ q,λl y=>?_⟩;rcases qE y with z|z
    .subst z;exact f
    .exact x l z
  |_=>cases e
variable{G:Tb}{n:Nat}{sc:Scope}{N:X9}{df:Bool}
def QX(g:Good G n sc N df X):gG X (.builtin "sum") (zP X.K (Ev.cZ .sum)):=by
 intro j s σ H xs us Q I r q;obtain⟨rr,h,B,d,h',k,C,e,q⟩:=q
 match B,e with
 |[.ref m],e=>
  obtain⟨e,rfl⟩:=Ev.aH e;simp only[ZJ,aab]at e;obtain⟨c,⟨ds,F,J⟩,rfl⟩:=e;obtain⟨v,w,rfl,⟨p,rfl,z⟩,rfl⟩:=C;obtain⟨u,rfl,L⟩:=vals1 r;cases L;obtain⟨p',vs,x,M,w⟩:=k.read F;rw[z]at x;cases x;obtain⟨P,pv,W,_⟩:=I.list M;have y:=Cb J w pv;obtain⟨f,a⟩:=(y.allInts).items;have Y:s.heap.IsList p (intItems f):=by rw[<-a];exact W.isList
  refine sum_intListG (I.ok.hd g.calm) Y λZ tk t' hk=>?_;have b:preSum (numAt f) f.size=c.sum:=by
   have A:numsOf P.toArray.toList=c:=by exact y.numsOf
   rw[a,nums_intItems]at A;rw[preSum_eq,abb (by simp),A]
  rw[b];exact⟨.int c.sum,H,I.kept hk,⟨_,rfl⟩,q.here rfl k⟩
def QY:gG X (.builtin "len") (zP X.K (Ev.cZ .len)):=by
 intro a s σ H xs us Q I r q;obtain⟨B,h,j,d,C,b,c,e,q⟩:=q
 match j,e with
 |[.str l],e=>
  delta Ev.cZ at e;dsimp only at e
  split at e
  ·exists e
   obtain⟨v,w,rfl,⟨rfl,k⟩,rfl⟩:=c;refine zK a s σ H _ us Q I r ⟨_,rfl,by exact k,?_⟩;exact q.here rfl b
  ·exists e
 |[.tup ds],e=>
  exists e
  obtain⟨v,w,rfl,⟨p,f,rfl,z,x⟩,rfl⟩:=c;refine m7 a s σ H _ us Q I r ⟨p,f,rfl,.inr z,?_⟩;rw[x.length];exact q.here rfl b
 |[.ref m],e=>
  obtain⟨e,rfl⟩:=Ev.aH e;simp only[ZJ]at e;obtain⟨ds,y,rfl⟩:=e;simp only[aV,RV]at c;obtain⟨v,w,rfl,⟨p,rfl,z⟩,rfl⟩:=c;obtain⟨F,f,g,A,w⟩:=b.read y;rw[z]at g;cases g;refine m7 a s σ H _ us Q I r ⟨p,f,rfl,.inl A,?_⟩;rw[w.length];exact q.here rfl b
def QZ(g:Good G n sc N df X):gG X (.builtin "min") (zP X.K (Ev.cZ .min)):=by
 intro a s σ H xs us Q I r q;obtain⟨k,h,c,d,p,f,b,e,q⟩:=q
 match c,e with
 |[.int i,.int j],e=>
  exists e
  simp only[aV,RV]at b;obtain⟨v,w,rfl,rfl,x,y,rfl,rfl,rfl⟩:=b;exact E6 g.calm a s σ H _ us Q I r ⟨i,j,rfl,q.here rfl f⟩
def Q0(g:Good G n sc N df X):gG X (.builtin "max") (zP X.K (Ev.cZ .max)):=by
 intro a s σ H xs us Q I r q;obtain⟨k,h,c,d,p,f,b,e,q⟩:=q
 match c,e with
 |[.int i,.int j],e=>
  exists e
  simp only[aV,RV]at b;obtain⟨v,w,rfl,rfl,x,y,rfl,rfl,rfl⟩:=b;exact E5 g.calm a s σ H _ us Q I r ⟨i,j,rfl,q.here rfl f⟩
def Gg:yh X "list.append" (zQ X.K (Ev.gM .append)):=by
 intro c s σ H x xs v us Q I rx rs q;obtain⟨r,h,a,F,d,P,j,J,L,e,q⟩:=q;cases a with
 |ref m=>
  match F,e with
  |[b],e=>
   delta Ev.gM at e;dsimp only at e
   split at e
   .rename_i ds k;split at e
    .rename_i hz
     exists e
     obtain⟨p,rfl,z⟩:=J.shape;obtain⟨y,w,rfl,M,rfl⟩:=L;obtain⟨W,A,B,g,C⟩:=j.ob _ _ k;rw[z]at A;cases A;refine nU c s σ H _ _ v us Q I rx rs ⟨p,B,y,rfl,rfl,g,by rw[C.length];exact hz,?_⟩;have f:=Fm.write (K:=X.K) (ws:=B++[y]) g (aaC z);exact q _ _ r rfl (j.write k z g (C.append (.cons M .nil))) f
    ·exists e
   ·exists e
  |[],e=>exists e
  |_ :: _ :: _,e=>exists e
 |_=>exists e
def Gh:yh X "list.extend" (zQ X.K (Ev.gM .extend)):=by
 intro b s σ H x xs v us Q I rx rs q;obtain⟨r,h,a,L,d,h',c,M,P,e,q⟩:=q;cases a with
 |ref m=>
  match L,e with
  |[.ref k],e=>
   delta Ev.gM at e;dsimp only at e
   split at e
   .rename_i ds es j W;split at e
    .rename_i hz
     exists e
     obtain⟨p,rfl,z⟩:=M.shape;obtain⟨y,w,rfl,⟨Y,rfl,Z⟩,rfl⟩:=P;obtain⟨p',A,B,g,C⟩:=c.ob _ _ j;rw[z]at A;cases A;obtain⟨p'',F,ws,k2,J⟩:=c.ob _ _ W;rw[Z]at F;cases F;refine Fj b s σ H _ _ v us Q I rx rs ⟨p,Y,B,ws,rfl,rfl,g,k2,by rw[C.length,J.length];exact hz,?_⟩;have f:=Fm.write (K:=X.K) (ws:=B++ws) g (aaC z);exact q _ _ r rfl (c.write j z g (C.append J)) f
    ·exists e
   ·exists e
 |_=>exists e
def Q2:yh X "list.pop" (zQ X.K (Ev.gM .pop)):=by
 intro b s σ H x xs v us Q I rx rs q;obtain⟨r,h,a,C,d,Z,k,F,J,e,q⟩:=q;cases a with
 |ref m=>
  match C,e with
  |[],e=>
   delta Ev.gM at e;dsimp only at e
   split at e
   .rename_i ds A;split at e
    .rename_i y L;cases e;obtain⟨p,rfl,z⟩:=F.shape;subst J;obtain⟨p',B,g,j,c⟩:=k.ob _ _ A;rw[z]at B;cases B;obtain⟨M,P,W⟩:=c.get L;refine Fp b s σ H _ _ v us Q I rx rs ⟨p,g,M,rfl,rfl,j,by rw[c.length];exact P,?_⟩;have f:=Fm.write (K:=X.K) (ws:=g.dropLast) j (aaC z);have Y:aV X.K H r ds.dropLast g.dropLast:=by
      rw[abr,abr,c.length];exact c.take _
     exact q _ _ r (W.mono f) (k.write A z j Y) f
    ·exists e
   ·exists e
  |_ :: _,e=>exists e
 |_=>exists e
theorem uI(z:Θ):∀ss:Γ,Str.join (aI z) (ss.map aI)=aI (Ev.dh z ss)
 |[]=>rfl
 |[s]=>rfl
 |s :: t :: r=>by
  have a:=uI z (t :: r);show aI s++aI z++Str.join (aI z) ((t :: r).map aI)=_;rw[a,xq,xq];rfl
def join_eq(z:Θ)(ss:Γ):Txt.join (aI z) (ss.map aI)=aI (Ev.dh z ss):=by
 rw[<-uI];exact PySem.StrLaws.glued_eq_join _ _
def Np:yh X "str.join" (zQ X.K (Ev.gM .join)):=by
 intro j s σ H x xs v us Q I rx rs q;obtain⟨r,h,a,A,d,Z,p,B,C,e,q⟩:=q;cases a with
 |str b=>
  match A,e with
  |[.ref k],e=>
   delta Ev.gM at e;dsimp only at e
   split at e
   .rename_i g f;split at e
    .rename_i hz
     exists e
     simp only[aab]at f;obtain⟨ds,f,F⟩:=f;obtain⟨rfl,hl⟩:=B;obtain⟨t,rfl⟩:=rx;obtain⟨y,w,rfl,⟨p2,rfl,J⟩,rfl⟩:=C;obtain⟨u,rfl,L⟩:=vals1 rs;cases L;obtain⟨p',vs,z,M,w⟩:=p.read f;rw[J]at z;exists z;obtain⟨zs,pv,P,_⟩:=I.list M;obtain⟨W,g2⟩:=Cc F w pv;have c:((g.map aI).map (·.length)).sum+(g.map aI).length*(aI b).length<=16777216:=by
      rw[acG,aaP,jq];exact hz
     refine join_list P.isList W c λt' k'=>?_;rw[join_eq];refine⟨.str _,H,I.tok _,⟨_,rfl⟩,q.here ⟨rfl,?_⟩ p⟩;have Y:=PySem.StrLaws.join_length_le (aI b) (g.map aI);rw[uI,jq]at Y;have:=abQ;lia
    ·exists e
   ·exists e
 |_=>exists e
end
section
variable{X:Cx}{G:Tb}{n:Nat}{sc:Scope}{N:X9}{df:Bool}{m:Θ}{a c:E}{xa:Expr}{pos:Pos}
theorem aV.ofStr{K:Φ}:∀(l:Θ),aV K H r (l.map λc=>.str [c]) (l.map λc=>.str (aI [c]))
 |[]=>.nil
 |c :: l=>.cons ⟨rfl,by show 1<=sizeLine;decide⟩ (aV.ofStr l)
def DW(h:ItemsOf (SignAt (aI x)) acc (aI x).cps.size):Vals (x.map λc=>.str (aI [c])) acc.toList:=by
 obtain⟨p,q⟩:=h;have b:acc.toList.length=x.length:=by simpa[aI]using p
 have go:∀(y:Θ) (l:Y2) (k:Nat),l.length=y.length->(∀j v,l[j]?=some v->SignAt (aI x) (k+j) v)->(∀j,y[j]?=x[k+j]?)->Vals (y.map λc=>.str (aI [c])) l:=by
  intro y;induction y with
  |nil=>intro l k b _ _;cases l with|nil=>exact .nil|cons _ _=>simp at b
  |cons c y r=>
   intro l k b d g;cases l with
   |nil=>simp at b
   |cons v l=>
    refine .cons ?_ (r l (k+1) (by simpa using b) (λj w z=>?_) λj=>?_)
    .obtain⟨A,u,e,rfl⟩:=d 0 v (by simp);have:=g 0;simp at this;have f:x[k]?=some A:=by simpa[aI]using e
     rw[f]at this
     exists this
     exact⟨u,rfl⟩
    .have:=d (j+1) w (by simpa using z);rw[show k+1+j=k+(j+1)by lia];exact this
    .have:=g (j+1);simp at this;rw[this]
     congr 1
     lia
 exact go x acc.toList 0 b (λj v d=>by simpa using q j v (by simpa using d)) λj=>by simp
def Nq(g:Good G n sc N df X):gG X (.type "list") (λxs H Q=>∃r h d src x,HR X.K H r h/\RV X.K H r d x/\xs=[x]/\Ev.gZ h d=some src/\src.1.length<=sizeLine/\∀vs,aV X.K H r src.1 vs->∀l,H l=none->Q (.ref l) (upd H l (.lst vs))):=by
 intro b s σ H xs us Q I rv q;obtain⟨r,h,d,src,x,C,k,rfl,e,hz,q⟩:=q;cases d with
 |tup ds=>
  exists e
  obtain⟨p,vs,rfl,z,w⟩:=k.shape;exact qZ b s σ H _ us Q I rv ⟨p,vs,rfl,.inr z,q vs w⟩
 |ref i=>
  simp only[Ev.gZ,ZJ]at e;obtain⟨ds,F,rfl⟩:=e;obtain⟨p,rfl,z⟩:=k.shape;obtain⟨W,vs,A,J,w⟩:=C.read F;rw[z]at A;cases A;exact qZ b s σ H _ us Q I rv ⟨p,vs,rfl,.inl J,q vs w⟩
 |str l=>
  exists e
  obtain⟨rfl,B⟩:=k;obtain⟨u,rfl,L⟩:=vals1 rv;obtain⟨t,rfl⟩:=L;refine call_list_str (I.ok.hd g.calm) (aI l) t (λY tk f M P y j=>?_) (by simpa[aI]using B);refine⟨.ref s.heap.objs.size,_,I.laid P (aaB _) ?_,rfl,q _ (aV.ofStr l) _ (I.hok.fresh (aaB _))⟩;exact⟨by simpa using B,f.toList,M,DW j,by simpa using y⟩
 |_=>exists e
def Q3{p:Pos}(ha:JE G n sc N df m a xa)(h1:("list":Str)∈G.bl:=by decide)(Gi:sc.names.lookup ("list":Str)=some .globalImplicit:=by rfl)(Z:∀env:Env,starEach [xa] env=[(false,eval xa env)]:=by intro _;rfl):JE G n sc N df m (.jx (.seq a)) (.Call (.Name "list" p) [xa] [] pos):=λX g=>by
 refine PE.of (yg (Nq g) (g.gl Gi) (g.bl _ h1) (by decide) (fk (ha X g) iz (Z _)) (by decide) (by decide) (Z _) rfl) λs H Q q=>?_;obtain⟨r,j,h,d,F,sr,k,e,q⟩:=q;simp only[Ev.ev,Ev.fc]at e;obtain⟨src,I,b,e⟩:=Ev.ah e;obtain⟨x,J,y,b⟩:=Ev.ah b;obtain⟨b,rfl⟩:=Ev.aH b;refine⟨r,j,h,x,_,sr,k,y,λv H1 A B f f1=>?_⟩;have hz:src.1.length<=sizeLine:=by
  unfold Ev.alloc at e;split at e
  .rename_i z;rw[<-o9];exact z
  ·exists e
 exact⟨A,_,x,src,v,f,B,rfl,b,hz,λK w l C=>((q.later f1).lst e w f).2 l C⟩
end
section
variable{a:E}
theorem Vals.reverse(w:Vals vs us):Vals vs.reverse us.reverse:=by
 induction w with
 |nil=>exact .nil
 |cons a _ b=>rw[aaT,aaT];exact b.append (.cons a .nil)
end
section
variable{G:Tb}{n:Nat}{sc:Scope}{N:X9}{df:Bool}{m:Θ}{a c:E}{xa:Expr}{pos:Pos}
def Jb(g:Good G n sc N df X):gG X (.type "tuple") (λxs H Q=>∃r h d x Z h',HR X.K H r h/\RV X.K H r d x/\xs=[x]/\Ev.wU d h=.ok Z h'/\Res X.K r H h' Z Q):=by
 intro b s σ H xs us Q I rv q;obtain⟨r,h,d,x,Z,h',f,j,rfl,e,q⟩:=q;cases d with
 |tup ds=>
  exists e
  have A:=j;obtain⟨p,k,rfl,z,w⟩:=j.shape;exact qF b s σ H _ us Q I rv ⟨p,k,rfl,.inr ⟨z,q.here A f⟩⟩
 |ref i=>
  simp only[Ev.wU]at e;split at e
  .rename_i ds B;split at e
   ·exists e
    obtain⟨p,rfl,z⟩:=j.shape;obtain⟨J,k,y,C,w⟩:=f.read B;rw[z]at y;cases y;exact qF b s σ H _ us Q I rv ⟨p,k,rfl,.inl ⟨C,λl F=>q.tup w f F⟩⟩
   ·exists e
  ·exists e
 |_=>exists e
def Q4{p:Pos}(Z:JE G n sc N df m a xa)(h1:("tuple":Str)∈G.bl:=by decide)(Gi:sc.names.lookup ("tuple":Str)=some .globalImplicit:=by rfl)(I:∀env:Env,starEach [xa] env=[(false,eval xa env)]:=by intro _;rfl):JE G n sc N df m (.kh a) (.Call (.Name "tuple" p) [xa] [] pos):=λX g=>by
 refine PE.of (yg (Jb g) (g.gl Gi) (g.bl _ h1) (by decide) (fk (Z X g) iz (I _)) (by decide) (by decide) (I _) rfl) λs H Q q=>?_;obtain⟨r,f,h,d,j,sr,k,e,q⟩:=q;simp only[Ev.ev]at e;obtain⟨x,y,z,e⟩:=Ev.ah e;refine⟨r,f,h,x,_,sr,k,z,λv H1 A B b f1=>?_⟩;exact⟨A,y,x,v,d,j,b,B,rfl,e,q.later f1⟩
def Q5{c:Nat}{st:Stmt}:JS G n sc N df m (.fP c) st:=λX g=>PS.of Ij λQ s H q=>by
 obtain⟨r,b,h,fl,d,f,sr,j,e,q⟩:=q
 exists e
end
end Sm
namespace Rv
open PySem PyProof.Rows
def slot_next:Slot "reversed" "__next__" "reversed.__next__" :=
 .of (owner:="reversed") (n:="__next__") (by kernel_rfl) (by decide) (by decide) (by decide)
  (by first|exact .inl (by decide)|exact .inr (by decide)) (by kernel_rfl)
def entry_next:entryFor table "reversed.__next__" = some Builtin.«reversed.__next__»:=entryFor_of_tree (by kernel_rfl)
def args_next(a:Value):argsOk "reversed.__next__" ⟨[a],[]⟩:=by
 kernel_rfl
def yE:Slot "reversed" "__iter__" "reversed.__iter__" :=
 .of (owner:="reversed") (n:="__iter__") (by kernel_rfl) (by decide) (by decide) (by decide)
  (by first|exact .inl (by decide)|exact .inr (by decide)) (by kernel_rfl)
def Gj(a:Value):argsOk "reversed.__iter__" ⟨[a],[]⟩:=by
 kernel_rfl
def DX:entryFor table "reversed.__iter__" = some Builtin.«dict_keyiterator.__iter__»:=
 entryFor_alias (id':="dict_keyiterator.__iter__") (by kernel_rfl) (by first|rfl|decide | (simp +decide [String.splitOnAux])) (by decide) (by kernel_rfl)
def rL:Slot "reversed" "__length_hint__" "reversed.__length_hint__" :=
 .of (owner:="reversed") (n:="__length_hint__") (by kernel_rfl) (by decide) (by decide) (by decide)
  (by first|exact .inl (by decide)|exact .inr (by decide)) (by kernel_rfl)
def DY:entryFor table "reversed.__length_hint__" = some Builtin.«reversed.__length_hint__»:=entryFor_of_tree (by kernel_rfl)
def Gk(a:Value):argsOk "reversed.__length_hint__" ⟨[a],[]⟩:=by
 kernel_rfl
def Q6:typeLookup (.type "reversed") "__len__" = pure none:=by kernel_rfl
def Q7:typeLookup (.type "tuple") "__reversed__" = pure none:=by kernel_rfl
section
variable{prog:Program}{w:World}{A:Around}{E:Ξ}{s:Shared}
def Gm:Slot "reversed" "__init__" "object.__init__" :=
 .of (owner:="object") (n:="__init__") (by kernel_rfl) (by decide) (by decide) (by decide)
  (by first|exact .inl (by decide)|exact .inr (by decide)) (by kernel_rfl)
def called:TypeCalled "reversed" "reversed.__new__" "object.__init__" :=
 ⟨by decide,by decide,⟨_,_,F.mro_reversed⟩,F.made_reversed,by decide,F.sub_reversed_self,Gm⟩
def jF(h:Heap)(a t:Addr)(i:Int):Prop:=∃o,h.get? a=some o/\o.cls=.type "reversed" /\o.data=.fields #[.ref t,rawInt i]
def jF.typeIs(x:jF s.heap a l i):s.TypeIs (.ref a) "reversed" :=let ⟨o,ho,hc,_⟩:=x;⟨o,ho,hc⟩
def jF.at(x:jF h a l i)(e:∀o,h.get? a=some o->h'.get? a=some o):jF h' a l i:=let ⟨o,ho,r⟩:=x;⟨o,e _ ho,r⟩
def sU(l:Addr)(i:Int):Obj:={ cls:=.type "reversed",data:=.fields #[.ref l,rawInt i]}
def sV(x:IsTup h t items)(e:∀o,h.get? t=some o->h'.get? t=some o):IsTup h' t items:=let ⟨o,ho,r⟩:=x;⟨o,e _ ho,r⟩
def Jc(I:IsTup s.heap t items)(z:(items.size:Int)<2 ^ 63)(h:Q₁ (.ref s.heap.objs.size) { s with heap:=s.heap.push (sU t ((items.size:Int) - 1)),toks:=s.toks+1+1 }):
  codeAny (model prog w) A (.call (.builtin "reversed.__new__") ⟨[.type "reversed",.ref t],[]⟩) (wants Q₁ E) s:=by
 refine codeAny_of_tree ?_;refine gV (abH (F.newCall_reversed_1 _) (ZM ⟨plainId_quiet F.plain_reversed_new _,codeAny_builtin F.entry_reversed_new ?_⟩));refine gV (abH (newClass_reversed _) ?_);try dsimp only
 refine gV (abH (by first|rfl|kernel_rfl) ?_);refine gV (abH (by first|rfl|kernel_rfl) ?_);try dsimp only
 refine gV (ab7 I.typeIs Q7 ?_);try dsimp only
 refine gV ?_
 wp_delta
 refine gV (ac7 (b:=false) I.typeIs (by kernel_rfl) ?_);refine abo (λa=>absurd a (by decide)) (λ_=>?_);refine gV (ab7 I.typeIs slot_tuple_getitem.lookup ?_);try dsimp only
 refine abo (λ_=>?_) (λa=>absurd (by decide) a);refine ZM ?_;refine abo (λa=>absurd a (by decide)) (λ_=>?_);refine gV (len_tuple I z ?_);refine gV (ZM ?_);try dsimp only
 refine gV ?_;unfold Builtin.SmallTypes.newRecord;refine abp ?_ (by size_fits);exact ZM h
def Jd(I:IsTup s.heap t items)(z:(items.size:Int)<2 ^ 63)(h:Q (.ref s.heap.objs.size) { s with heap:=s.heap.push (sU t ((items.size:Int) - 1)),toks:=s.toks+1+1 }):wpAny (model prog w) A (call (.type "reversed") [.ref t]) Q E s:=by
 refine callType_codes (Q₁:=λa b=>a=.ref s.heap.objs.size/\b={ s with heap:=s.heap.push (sU t ((items.size:Int) - 1)),toks:=s.toks+1+1 }) called (F.typeCall_reversed_1 _) F.entry_object_init (Jc I z ⟨rfl,rfl⟩) ?_;rintro a b ⟨rfl,rfl⟩;have c:({ s with heap:=s.heap.push (sU t ((items.size:Int) - 1)),toks:=s.toks+1+1 }).TypeIs (.ref s.heap.objs.size) "reversed" :=⟨_,aaQ _ rfl,rfl⟩
 refine⟨c,F.args_object_init_2 _ _,?_⟩;exact object_init_meets called.init.lookup called.made (by decide) prog w A.in1 _ _ ⟨c,rfl,h⟩
def next_item{i:Nat}(z:jF s.heap it t (i:Int))(I:IsTup s.heap t items)(Z:items[i]?=some x)(hfit:(items.size:Int)<2 ^ 62)(hQ:∀h' tk,jF h' it t ((i:Int) - 1)->Heap.SameBut it s.heap h'->Q (some x) { s with heap:=h',toks:=tk }):wpAny (model prog w) A (pyNext (.ref it)) Q E s:=by
 obtain⟨o,b,d,a⟩:=id z;have e:=(Array.getElem?_eq_some_iff.mp Z).1;refine gV (ab1 (abN z.typeIs slot_next
  (abK slot_next z.typeIs entry_next ?_ (args_next _))))
 refine gV (abH rfl ?_);try dsimp only
 refine gV (abx b a rfl ?_);refine gV (abx b a rfl ?_);try dsimp only
 refine gV (ab7 I.typeIs slot_tuple_getitem.lookup ?_);try dsimp only
 refine abo (λc=>absurd c (by decide)) (λ_=>?_);refine gV (wpAny_mkInt ?_);refine gV (ab1 (getItem_tuple I (by lia) (by lia) (by unfold seqIndex?;simp;lia) Z ?_));try dsimp only
 refine gV (abx b a rfl ?_);refine gV (ado b a (by simp) ?_);refine ZM ⟨x,rfl,ZM (hQ _ _ ?_ (acP ..))⟩;exact⟨_,abE _ b (Obj.isFreed_of_fields (acg a _)),(Obj.cls_mapFields ..).trans d,by
  rw[acg a];simp⟩
def next_end(I:A.handled=none)(z:jF s.heap it t (-1))(Z:∀h',Heap.ExtBut it s.heap h'->Q none { s with heap:=h' }):wpAny (model prog w) A (pyNext (.ref it)) Q E s:=by
 obtain⟨o,b,d,a⟩:=id z;refine gV (ab1 (abN z.typeIs slot_next
  (abK slot_next z.typeIs entry_next ?_ (args_next _))))
 refine gV (abH rfl ?_);try dsimp only
 refine gV (abx b a rfl ?_);refine gV (abx b a rfl ?_);show wpAny _ _ (if (-1)<0 then _ else _) _ _ s;refine gV (acY ?_);refine gV ?_
 wp_delta
 refine gV (ado b a (by simp) ?_);have c:=abE (Obj.mapFields λx=>x.setIfInBounds 1 (rawInt (-1))) b (Obj.isFreed_of_fields (acg a _));refine ado c (acg a _) (by simp) ?_;refine gV ?_;first
 |show wpAny _ _ (newExc (.type "StopIteration") [] >>= _) _ _ _
 | (refine gV ?_;show wpAny _ _ (newExc (.type "StopIteration") [] >>= _) _ _ _)
 refine gV ?_;refine gV (abp ?_ (by size_fits));refine gV (abH (by first|rfl | (rfl)) ?_);refine abp ?_ (by size_fits);refine gV (wpAny_handled ?_);first|rw[show A.in1.handled=none from I]|rw[I]
 refine gV (ZM (wpAny_throw ?_));refine gV (ac7 ⟨_,aaQ _ rfl,rfl⟩ isSubtype_stop ?_);exact ZM (Z _ ((((acP ..).extBut.trans (acP ..).extBut).push _).push _))
def Aa(z:jF s.heap it t i)(h:Q (.ref it) s):wpAny (model prog w) A (pyIter (.ref it)) Q E s:=by
 refine wpAny_pyIter_slot z.typeIs yE (abK yE z.typeIs DX ?_ (Gj _));exact ZM ⟨_,rfl,"reversed",_,z.typeIs,slot_next.lookup,h⟩
def Je(z:jF s.heap it t ((items.size:Int) - 1))(Z:IsTup s.heap t items)(I:items.size<=sizeLine)(h:∀tk,Q ((items.size:Int) != 0) { s with toks:=tk }):wpAny (model prog w) A (Builtin.List.listLengthHint (.ref it)) Q E s:=by
 obtain⟨o,e,j,f⟩:=id z;refine gV (ab7 z.typeIs Q6 ?_);refine abo (λc=>absurd c (by decide)) (λ_=>?_);refine abo (λc=>absurd c (by decide)) (λ_=>?_);refine gV (ab7 z.typeIs rL.lookup ?_);generalize hid:("reversed.__length_hint__" : String)=id0
 subst hid;refine gV (ac7 (T:="reversed") (b:=true) z.typeIs (by rw[isSubtype_type];kernel_rfl) ?_);refine abo (λc=>absurd c (by decide)) (λ_=>?_);refine abo (λc=>absurd c (by decide)) (λ_=>?_);refine gV (acY ?_);refine gV (abH (rL.bind _) ?_);refine gV (ab1 (abK rL z.typeIs DY ?_ (Gk _)));refine gV (abH (a:=Value.ref it) rfl ?_);refine gV (abx e f (x:=.ref t) rfl ?_);refine abo (λc=>absurd c aa5) (λ_=>?_);have d:(items.size:Int)<2 ^ 63:=by rw[abQ]at I;lia
 refine gV (len_tuple Z d ?_);refine gV (m:=asInt? _) (ZM ?_);refine gV (abx e f (x:=rawInt ((items.size:Int) - 1)) rfl ?_);show wpAny _ _ (if (items.size:Int)<(items.size:Int) - 1+1 then _ else _) _ _ _;rw[aaH (by lia)];have g:(items.size:Int) - 1+1=(items.size:Int):=by lia
 rw[g];refine gV (wpAny_mkInt (ZM ⟨_,rfl,?_⟩));generalize s.toks+1+1=tk
 refine gV ?_;refine ZM (a:=some (items.size:Int)) ?_;have Gp:Builtin.List.listFitsIndex (items.size:Int)=true:=by unfold Builtin.List.listFitsIndex;rw[abn (by lia),abn (by lia)];rfl
 show wpAny _ _ (if (!Builtin.List.listFitsIndex (items.size:Int))=true then _ else _) _ _ _;rw[aaH (by rw[Gp];decide)];show wpAny _ _ (if (items.size:Int)<0 then _ else _) _ _ _;rw[aaH (by lia)];have Cd:Builtin.List.listTooLong ((items.size:Int).toNat)=false:=by unfold Builtin.List.listTooLong;rw[acv];exact aaR (by lia)
 show wpAny _ _ (if Builtin.List.listTooLong ((items.size:Int).toNat)=true then _ else _) _ _ _;rw[aaH (by rw[Cd];decide)];exact ZM (h _)
def _root_.PySem.Walks.Q8(hh:A.handled=none)(I t:Addr)(hne:t≠I)(z:Array Value)(Z:(z.size:Int)<2 ^ 62):
  Walks prog w A I [I,t] [I] z.size (λi v=>z[z.size - 1 - i]?=some v) (λi h=>i<=z.size/\jF h I t ((z.size:Int) - 1 - (i:Int))/\IsTup h t z) where
 sub:=λb c=>by simp at c;simp[c]
 frame:=λ_ _ _ x p=>⟨x.1,x.2.1.at λo e=>p I (by simp) o e,sV x.2.2 λo e=>p t (by simp) o e⟩
 item:=λi s Q E r x d=>by
  have e:(z.size:Int) - 1 - (i:Int)=((z.size - 1 - i:Nat):Int):=by omega
  have a:=x.2.1;rw[e]at a;have q:z[z.size - 1 - i]?=some (z[z.size - 1 - i]'(by omega)):=ac2 (by omega);refine next_item a x.2.2 q Z λj tk Q9 f=>?_;have y:((z.size - 1 - i:Nat):Int) - 1=(z.size:Int) - 1 - ((i+1:Nat):Int):=by omega
  rw[y]at Q9;exact d _ j tk q ⟨r,Q9,sV x.2.2 λo g=>(f.2 t hne).trans g⟩ λb o c g=>f.extBut b o (λh=>c (by simp[h])) g
 done:=λs Q E x d=>by
  have e:(z.size:Int) - 1 - (z.size:Int) = -1:=by omega
  have a:=x.2.1;rw[e]at a;exact next_end hh a λj k=>d j s.toks λb o c g=>k b o (λh=>c (by simp[h])) g
 self:=λ_ _ _ _ x d=>Aa x.2.1 d
def DZ{R:Result->Shared->Prop}{I t:Addr}{Z:Array Value}(hh:A.handled=none)(hit:jF s.heap I t ((Z.size:Int) - 1))(ht:IsTup s.heap t Z)(hne:t≠I)(hlen:Z.size<=sizeLine)(S:Addr)(hSI:S≠I)(hSt:S≠t)(res:Value)(c₀:Nat)(hS:s.heap.get? S=some { cls:=.type "list",data:=.seq #[] c₀ })(hR:∀h' tk acc' c',(∀b o,b≠S->b≠I->s.heap.get? b=some o->h'.get? b=some o)->h'.get? S=some { cls:=.type "list",dict:=none,data:=.seq acc' c',slots:=#[]}->
   ItemsOf (λi v=>Z[Z.size - 1 - i]?=some v) acc' Z.size->R (.ok (.ret res)) { s with heap:=h',toks:=tk }):
  wpAny (model prog w) A.in1 (Builtin.List.listExtendWith (.ref S) (.ref I) res)
   (λfin s'=>match fin with|.done f=>R (.ok f) s'|.again c'=>c'.quiet=true/\codeAny (model prog w) A c' R s') (λe s'=>R (.error e) s') s:=by
 have z:(Z.size:Int)<2 ^ 62:=by rw[abQ]at hlen;lia
 have k:S∉[I,t]:=λj=>by rcases qE j with e|e;exact hSI e;exact hSt (List.mem_singleton.mp e)
 have W:=(Walks.Q8 (prog:=prog) (w:=w) (A:=A.in1) hh I t hne Z z).toS;have c:∀(h:Heap) (p tk:Nat),jF h I t ((Z.size:Int) - 1 - ((0:Nat):Int))->IsTup h t Z->(∀b o,b≠S->s.heap.get? b=some o->h.get? b=some o)->
   h.get? S=some { cls:=.type "list",data:=.seq #[] p }->codeAny (model prog w) A (.builtin "list.extend.loop" ⟨[.ref S,.ref I,res],[]⟩) R { s with heap:=h,toks:=tk }:=by
  intro h p tk hit ht B Vn;refine codeAny_extend_loopS W hlen S k res Z.size 0 _ #[] p rfl (abu _) ⟨abu _,hit,ht⟩ Vn (ItemsOf.nil _) λs' acc' c' j q d=>?_;rw[Moved.eq_with j];refine hR s'.heap s'.toks acc' c' (λb o g r e=>j.heap b o (λa=>?_) (B b o g e)) q d;rcases qE a with C|a
  .exact g C
  .exact r (List.mem_singleton.mp a)
 unfold Builtin.List.listExtendWith;refine gV (ac3 (T:="reversed") hit.typeIs ?_);have G:Builtin.List.listSameRef (.ref S) (.ref I)=false:=by simp[Builtin.List.listSameRef,hSI]
 have H:(Value.type "reversed" ==Value.type "list")=false:=by decide
 have J:(Value.type "reversed" ==Value.type "tuple")=false:=by decide
 simp only[G,H,J,Bool.or_false,abB,acE];refine gV (Aa hit ?_);refine gV (ab0 (Je hit ht hlen λtk=>?_));have Ra:jF s.heap I t ((Z.size:Int) - 1 - ((0:Nat):Int)):=by simpa using hit
 refine abo (λ_=>?_) (λ_=>ZM ⟨plainId_quiet F.plain_extend_loop _,c _ c₀ _ Ra ht (λb o _ e=>e) hS⟩);refine gV (acY ?_);refine gV ?_;show wpAny _ _ (updateSeq S (·.push .none) >>= λ_=>updateSeq S (·.pop)) _ _ _;refine gV (adk hS rfl ?_);have y:=abE (Obj.mapSeq (·.push Value.none)) hS rfl;refine adk (hz:=by seq_fits) y rfl ?_;have Vo:=abE (Obj.mapSeq (·.pop)) y rfl;have x:∀b o,b≠S->s.heap.get? b=some o->((s.heap.update S (Obj.mapSeq (·.push Value.none))).update S (Obj.mapSeq (·.pop))).get? b=some o:=λb o g e=>(abR _ _ (abJ g)).trans ((abR _ _ (abJ g)).trans e);exact ZM ⟨plainId_quiet F.plain_extend_loop _,c _ _ _ (Ra.at λo e=>x _ _ (abJ hSI) e) (sV ht λo e=>x _ _ (abJ hSt) e) x Vo⟩
def Jf{R:Result->Shared->Prop}{I t:Addr}{z:Array Value}(hh:A.handled=none)(hit:jF s.heap I t ((z.size:Int) - 1))(ht:IsTup s.heap t z)(hne:t≠I)(Z:z.size<=sizeLine)(S:Addr)(hSI:S≠I)(hSt:S≠t)(hS:s.heap.get? S=some { cls:=.type "list",data:=.seq #[]})(hR:∀h' tk acc' c',(∀b o,b≠S->b≠I->s.heap.get? b=some o->h'.get? b=some o)->h'.get? S=some { cls:=.type "list",dict:=none,data:=.seq acc' c',slots:=#[]}->
   ItemsOf (λi v=>z[z.size - 1 - i]?=some v) acc' z.size->R (.ok (.ret .none)) { s with heap:=h',toks:=tk }):
  wpAny (model prog w) A.in1 (Builtin.«list.__init__» ⟨[.ref S,.ref I],[]⟩)
   (λfin s'=>match fin with|.done f=>R (.ok f) s'|.again c'=>c'.quiet=true/\codeAny (model prog w) A c' R s') (λe s'=>R (.error e) s') s:=by
 show wpAny _ _ (do let old <-Builtin.List.listItems (.ref S);Builtin.List.listUpdate (.ref S) (λ_=>#[]);letGo old.toList.reverse;Builtin.List.listExtendWith (.ref S) (.ref I) .none) _ _ s;refine gV ?_;unfold Builtin.List.listItems;refine gV (wpAny_seqItems hS rfl (ZM ?_));show wpAny _ _ (updateSeq S (λ_=>#[]) >>= λ_=>letGo (#[]:Array Value).toList.reverse >>= λ_=>Builtin.List.listExtendWith (.ref S) (.ref I) .none) _ _ s;refine gV (adk hS rfl ?_);have h:=abE (Obj.mapSeq (λ_=>(#[]:Array Value))) hS rfl;have Rb:∀b o,b≠S->s.heap.get? b=some o->(s.heap.update S (Obj.mapSeq (λ_=>(#[]:Array Value)))).get? b=some o:=
  λb o c e=>(abR _ _ (abJ c)).trans e
 refine gV (wpAny_letGo ?_);refine DZ hh (hit.at λo e=>Rb _ _ (abJ hSI) e) (sV ht λo e=>Rb _ _ (abJ hSt) e) hne Z S hSI hSt .none _ h λh' tk acc' c' j d a=>?_;exact hR h' tk acc' c' (λb o c g e=>j b o c g (Rb b o c e)) d a
def za(hh:A.handled=none)(z:jF s.heap I t ((items.size:Int) - 1))(ht:IsTup s.heap t items)(hne:t≠I)(Z:items.size<=sizeLine)(hQ:∀h' tk acc' c',(∀b o,b≠I->s.heap.get? b=some o->h'.get? b=some o)->
   h'.get? s.heap.objs.size=some { cls:=.type "list",dict:=none,data:=.seq acc' c',slots:=#[]}->ItemsOf (λi v=>items[items.size - 1 - i]?=some v) acc' items.size->Q (.ref s.heap.objs.size) { s with heap:=h',toks:=tk }):
  wpAny (model prog w) A (call (.type "list") [.ref I]) Q E s:=by
 refine callType_codes (Q₁:=λa g=>a=.ref s.heap.objs.size/\g={ s with heap:=s.heap.push { cls:=.type "list",data:=.seq #[]}}) F.called_list (F.typeCall_list_1 _) F.entry_list_init
  (code_list_new _ ⟨rfl,rfl⟩) λa g j=>?_
 obtain⟨rfl,rfl⟩:=j;have h:(s.heap.push { cls:=.type "list",data:=.seq #[]}).get? s.heap.objs.size=some { cls:=.type "list",data:=.seq #[]}:=aaQ _ rfl;have k:I<s.heap.objs.size:=by obtain⟨o,d,_⟩:=z;exact aaF d
 have p:t<s.heap.objs.size:=by obtain⟨o,d,_⟩:=ht;exact aaF d
 refine⟨⟨_,h,rfl⟩,F.args_list_init_2 _ _,Jf (A:=A.in1) hh (z.at λo e=>aaa _ e) (sV ht λo e=>aaa _ e) hne Z _ (adH k) (adH p) h λh' tk acc' c' q f c=>?_⟩;exact⟨rfl,hQ h' tk acc' c' (λb o r e=>q b o (aaV (aaF e)) r (aaa _ e)) f c⟩
end
end Rv
namespace Sm
open PySem PySem.Spec PyProof.Rows L2 PySem.SeqAt
open Ev (D O Hh Fr R aJ E Es Eo T S Ss Fl Src bN bA TY BI ME)
section
variable{X:Cx}{G:Tb}{n:Nat}{sc:Scope}{N:X9}{df:Bool}{m:Θ}{a b:E}{xa:Expr}{pos:Pos}
def Jg(r:Vals vs us)(h:ItemsOf (λi v=>us.toArray[us.toArray.size - 1 - i]?=some v) acc us.toArray.size):Vals vs.reverse acc.toList:=by
 obtain⟨c,g⟩:=h;have e:acc.toList=us.reverse:=by
  apply abv;intro i;by_cases d:i<us.length
  .have f:i<acc.size:=by rw[c];simpa using d
   have:=g i _ (ac2 f);rw[List.getElem?_reverse d];simp only[aaz,List.getElem?_toArray]at this;rw[this];simp[f]
  .have j:acc.size=us.length:=by rw[c];simp
   rw[aaO (by rw[ab6];lia),aaO (by rw[List.length_reverse];lia)]
 rw[e];exact Vals.reverse r
def Nr{p p2 pos2:Pos}(ha:JE G n sc N df m a xa)(h1:("list":Str)∈G.bl:=by decide)(Gi:sc.names.lookup ("list":Str)=some .globalImplicit:=by rfl)(hg:sc.names.lookup ("reversed":Str)=some .globalImplicit:=by rfl)(hb:("reversed":Str)∈G.bl:=by decide)(hst:∀env:Env,starEach [xa] env=[(false,eval xa env)]:=by intro _;rfl)(Rc:∀env:Env,starEach [Expr.Call (.Name "reversed" p2) [xa] [] pos2] env=[(false,eval (Expr.Call (.Name "reversed" p2) [xa] [] pos2) env)]:=by intro _;rfl):
  JE G n sc N df m (.jx (.rev a)) (.Call (.Name "list" p) [.Call (.Name "reversed" p2) [xa] [] pos2] [] pos):=λX g=>by
 intro j s σ H Q I q;obtain⟨r,Y,h,d,Z,sr,hr,e,q⟩:=q;rw[Ev.ev,Ev.fc]at e;replace e:=Ev.ah e;obtain⟨src,M,c,e⟩:=e;replace c:=Ev.ah c;obtain⟨x,h4,e2,c⟩:=c;replace c:=Ev.aH c;obtain⟨c,y0⟩:=c;subst y0;refine abz (o4 I (g.gl Gi) (g.bl _ h1) (show bootBuiltins ("list":Str)=some (.type "list")by decide) ?_ (by decide) (by decide));refine abC ?_ (Rc _) rfl;rw[Rc];show wpAny _ _ (spliced ((false,eval (Expr.Call (.Name "reversed" p2) [xa] [] pos2) X.env) :: backTo pos [])) _ _ s;refine aci ?_;have PAs:PA X [xa] _:=fk (ha X g) iz (by show _=_;rw[hst];rfl);refine Call_ (o4 I (g.gl hg) (g.bl _ hb) (show bootBuiltins ("reversed":Str)=some (.type "reversed")by decide) (abC (bx (PAs pos2 j s σ H (λP H1=>∃A u,P=[u]/\RV X.K H1 A x u/\HR X.K H1 A M/\Fm X.K r A H H1) I ⟨r,Y,h,x,M,sr,hr,e2,λu H1 A F y f1=>⟨A,u,rfl,F,y,f1⟩⟩) λus s1 z=>?_) (hst _) rfl));obtain⟨P,H1,I1,rv,A,u,rfl,F,y,f1⟩:=z;cases x<;>simp only[Ev.IJ,Option.map,reduceCtorEq]at c
 rename_i ds
 exists c
 obtain⟨t,ws,rfl,z,w⟩:=F.shape;cases rv with
 |cons ra rb=>
 cases rb;cases ra;obtain⟨f,pv,pt,hz⟩:=I1.tuple z;have k:f.toArray.size<=sizeLine:=by rw[aaz,<-pv.length];exact hz
 have hf:(f.toArray.size:Int)<2 ^ 63:=by rw[abQ]at k;lia
 refine Rv.Jd pt hf ?_;refine acy ?_;have I2:Inv X j σ H1 { s1 with heap:=s1.heap.push (Rv.sU t ((f.toArray.size:Int) - 1)),toks:=s1.toks+1+1 }:=I1.kept λb o e=>aaa _ e;have J:t≠s1.heap.objs.size:=by obtain⟨o,ho,_⟩:=pt;exact aaV (aaF ho)
 refine Rv.za (I1.ok.hd g.calm) ⟨_,aaQ _ rfl,rfl,rfl⟩ (Rv.sV pt λo e=>aaa _ e) J k λZ tk B c' hk L C=>?_;obtain⟨hz2,q2⟩:=(q.later f1).lst e w.reverse y;have W:s1.heap.objs.size<=(s1.heap.push (Rv.sU t ((f.toArray.size:Int) - 1))).objs.size:=by rw[size_push'];exact adL _
 refine⟨.ref _,_,I1.laid (t':=tk) (o:=.lst ws.reverse) (λb u e=>hk b u (aaV (aaF e)) (aaa _ e)) W ?_,rfl,q2 _ (I1.hok.fresh W)⟩;exact⟨by simpa using hz,B.toList,c',Jg pv C,by simpa using L⟩
end
theorem aV.ofInts{K:Φ}:∀ns:Q1,aV K H r (ns.map D.int) (ns.map V.int)
 |[]=>.nil
 |_ :: l=>.cons rfl (aV.ofInts l)
def Rg{K:Φ}(z:wR H)(I:gK K H a vs):DJ K H a vs:=by
 rcases I with h|h
 .rcases h with h|⟨o,h⟩
  .rcases z a with q|⟨o,xs,q⟩
   .rw[q]at h;exists h
   .rw[q]at h;cases h
  .exact .inl ⟨o,h⟩
 .exact .inr h
def Lh{k:Nat}(z:([O.bY l])[k]?=some o):o=.bY l:=by
 cases k with|zero=>simp at z;exact z.symm|succ k=>simp at z
def ox0{K:Φ}:OX K H r [.bY l] where
 ob:=λk c ds d=>by have:=Lh d;exists this
 pv:=λk a b d=>by have:=Lh d;exists this
 jp:=λk _ _ _ _ _ _ _ d _ _=>by have:=Lh d;exists this
 jo:=λk _ _ _ _ _ _ _ _ d _=>by have:=Lh d;exists this
def Vp{K:Φ}{F:List Ev.Fn}{w n f:Nat}{H:Hp}{a:Addr}{ns:Q1}(z:wR H)(I:gK K H a (ns.map V.int)){h':Hh}(e:Ev.run F w n f [.ref 0] [.bY (ns.map D.int)]=.ok (.bl true) h'):
  qI K F w n f [.ref a] H (λv _=>v=.bl true) λ_ _ _=>False:=by
 refine⟨[a],[.bY (ns.map D.int)],[.ref 0],.bl true,h',.cons (show RV K H [a] (.ref 0) (.ref a)from ⟨a,rfl,rfl⟩) .nil,⟨rfl,λk o c=>?_,λk l b x y _ _ c _=>?_
  ,ox0
  ⟩,e,λv H' g d _ _=>d⟩
 .cases k with
  |zero=>
   simp at c;subst c;exact⟨a,rfl,_,Rg z I,aV.ofInts ns⟩
  |succ k=>simp at c
 .cases k with
  |zero=>simp at c
  |succ k=>simp at c
def Nt{l:W.OpenLaw}{K:Params->Φ}(hn:l.most=some 63)(I:d.params.defaults=[])(hr:fJ n callerA)(hY:∀(w:World) (h:Heap),YP w h->(K w.params).In h)(good:∀ns:Q1,ns.length<=63->∃h',Ev.run F wh n f [.ref 0] [.bY (ns.map D.int)]=.ok (.bl true) h')(Fo:∀(w:World) (mg:W1) (Z:Addr) (h:Heap),(K w.params).In h->h.Ns mainGlobals mg->mg d.name=some (.ref Z)->
   ∃fd:FuncData,(∀(s:Shared) (u:Value),BindsTo s fd ⟨[u],[]⟩ [(x,u)])/\∀base:Heap,(K w.params).In base->base.Ns mainGlobals mg->eT l.prog w (K w.params) mg base kJ n Z fd [x] (qI (K w.params) F wh n f)):
  W.WalkO q loose XP YP l.row.toRowW d [] (λf vs=>PySem.call f vs):=
 L2.IG hn (by decide) I hr hY Fo (λK H a ns b c g=>by
  obtain⟨h',e⟩:=good ns b;exact Vp c g e) λ_ _ _ _ z=>z
end Sm
namespace Sm
open PySem PySem.Spec PyProof.Rows L2
open Ev (D O Hh Fr R aJ E Es Eo It T S Ss Fl Src bN bA TY BI ME)
section
variable{G:Tb}{n:Nat}{sc:Scope}{N:X9}{df:Bool}{m:Θ}{a b:E}{xa xb:Expr}{pos:Pos}
def hasB(N:X9)(m:Θ)(x:Str)(i:Nat):Bool:=(List.range N.length).any λj=>m[j]?==some i&&N[j]?==some x
def hasB.of(h:hasB N m x i=true):∃j:Nat,m[j]?=some i/\N[j]?=some x:=by
 obtain⟨j,_,q⟩:=List.any_eq_true.mp h;rw[Bg]at q;exact⟨j,by simpa using q.1,by simpa using q.2⟩
def vB(sc:Scope)(N:X9)(m:Θ)(x:Str)(i:Nat):Bool:=hasB N m x i&&(sc.names.lookup x==some .local ||sc.names.lookup x==some .cell ||sc.names.lookup x==some .free)&&!(x==("__debug__":Str))&&!(x==("__classdict__":Str))
def jv(h:vB sc N m x i=true):JE G n sc N df m (.v i) (.Name x pos):=by
 unfold vB at h;simp only[Bg,abd,abj]at h;obtain⟨⟨⟨d,c⟩,e⟩,f⟩:=h;obtain⟨j,g,k⟩:=hasB.of d;exact Za j i g k (by rcases c with (c|c)|c;exact .inl (by simpa using c);exact .inr (.inl (by simpa using c));exact .inr (.inr (by simpa using c))) e f
def gB(sc:Scope)(N:X9)(df:Bool)(m:Θ)(x:Str)(i:Nat):Bool:=hasB N m x i&&(sc.names.lookup x==some .local || (df&&sc.names.lookup x==some .cell))&&decide m.Nodup&&decide N.Nodup
theorem gB.of(h:gB sc N df m x i=true):∃j:Nat,m[j]?=some i/\N[j]?=some x/\(sc.names.lookup x=some .local\/(df=true/\sc.names.lookup x=some .cell))/\m.Nodup/\N.Nodup:=by
 unfold gB at h;simp only[Bg,abj]at h;obtain⟨⟨⟨d,c⟩,e⟩,f⟩:=h;obtain⟨j,g,k⟩:=hasB.of d;exact⟨j,g,k,by rcases c with c|⟨c,p⟩;exact .inl (by simpa using c);exact .inr ⟨c,by simpa using p⟩,aa7 e,aa7 f⟩
def jg1(h:gB sc N df m x i=true):JG G n sc N df m (.one i) (.Name x pos):=by
 obtain⟨j,c,d,e,f,g⟩:=gB.of h;exact Qt j i f g c d e
def jgc(h:gB sc N df m x i=true)(z:yo G n sc N df m l xs):yo G n sc N df m (i :: l) (.Name x pos :: xs):=by
 obtain⟨j,c,d,e,f,g⟩:=gB.of h;exact IT j i f g z c d e
def Zk(h:gB sc N df m x i=true)(z:JE G n sc N df m a xa)(I:∀env:Env,swapsWith xa (some (.Name x pos')) pos.line env=pure false:=by intro _;rfl):JS G n sc N df m (.set i a) (.Assign [.Name x pos'] xa pos):=by
 obtain⟨j,c,d,e,f,g⟩:=gB.of h;exact Qu j i f g z I c d e
def yF(sc:Scope)(x:Str):Bool:=sc.names.lookup x==some .globalImplicit&&!(x==("__debug__":Str))
def jcl{f:Nat}{i:FI}{es:Es}{x:Str}{z:Expr}{xs:Kx}{p:Pos}(h:yF sc x=true)(hf:G.fi[f]?=some i)(hx:i.name=x)(hs:JA G n sc N df m es (z :: xs))(I:∀env:Env,qN z xs env:=by intro _;rfl)(Z:∀env:Env,qW pos xs env:=by intro _;rfl):
  JE G n sc N df m (.cl f es) (.Call (.Name x p) (z :: xs) [] pos):=by
 subst hx;unfold yF at h;simp only[Bg,abd]at h;exact Vf hf hs (by simpa using h.1) h.2 I Z
def tgN:Expr->X9
 |.Name x _=>[x]
 |.Tuple xs _ _=>xs.filterMap λy=>match y with|.Name x _=>some x|_=>none
 |_=>[]
def Wv(N:X9)(m:Θ)(scope:Scope):List (Str×Nat):=(N.zip m).filter λp=>scope.names.contains (p.1,NameKind.free)
def cN(N:X9)(m:Θ)(scope:Scope)(tg:Expr):X9:=tgN tg++(Wv N m scope).map (·.1)
def cM(N:X9)(m:Θ)(scope:Scope)(t:T):Θ:=Ev.slots t++(Wv N m scope).map (·.2)
def Vq{cond:Eo}(hn:vt sc N m scope t (cN N m scope tg) (cM N m scope t)=true)(z:KZ sc scope=true)(hi:JI G n sc N df m it tg xi)(I:JG G n (gO sc scope) (cN N m scope tg) false (cM N m scope t) t tg)(hc:JC G n (gO sc scope) (cN N m scope tg) false (cM N m scope t) cond ifs)(Z:JE G n (gO sc scope) (cN N m scope tg) false (cM N m scope t) elt xe)(hf:∀(env:Env) x,foldedSetIterable xi env x=pure x:=by intro _ _;rfl):JE G n sc N df m (.comp elt t it cond) (.ListComp xe [⟨tg,xi,ifs,0⟩] scope pos):=
 B6 hi I hc Z (namesOk.of hn) (oN.of z) hf
def Vr{cond:Eo}(h:gB sc N df m x i=true)(hn:vt sc N m scope t (cN N m scope tg) (cM N m scope t)=true)(z:KZ sc scope=true)(hi:JI G n sc N df m it tg xi)(I:JG G n (gO sc scope) (cN N m scope tg) false (cM N m scope t) t tg)(hc:JC G n (gO sc scope) (cN N m scope tg) false (cM N m scope t) cond ifs)(Z:JE G n (gO sc scope) (cN N m scope tg) false (cM N m scope t) elt xe)(hf:∀(env:Env) x,foldedSetIterable xi env x=pure x:=by intro _ _;rfl):
  JS G n sc N df m (.set i (.comp elt t it cond)) (.Assign [.Name x pos'] (.ListComp xe [⟨tg,xi,ifs,0⟩] scope cpos) pos):=by
 obtain⟨j,c,d,e,f,g⟩:=gB.of h;exact Nc j i f g hi I hc Z (namesOk.of hn) (oN.of z) c d e hf
def Zl{rest:Kx}(z:JT G n sc N df m a xa)(I:JW G n sc N df m b (.BoolOp .And (xb :: rest) pos)):JT G n sc N df m (.an a b) (.BoolOp .And (xa :: xb :: rest) pos):=Qh (KS z I)
def Zm{rest:Kx}(z:JT G n sc N df m a xa)(I:JW G n sc N df m b (.BoolOp .Or (xb :: rest) pos)):JT G n sc N df m (.orr a b) (.BoolOp .Or (xa :: xb :: rest) pos):=Qh (FA z I)
def allB(G:Tb)(n:Nat):List (Ss×Stmt×X9)->Prop
 |[]=>True
 |p :: r=>qJ G n (av p.2.1) p.2.2 true (List.range p.2.2.length) p.1 (cV p.2.1)/\allB G n r
theorem allB.get:∀{l:List (Ss×Stmt×X9)}{k:Nat}{p:Ss×Stmt×X9},allB G n l->l[k]?=some p->qJ G n (av p.2.1) p.2.2 true (List.range p.2.2.length) p.1 (cV p.2.1)
 |[],_,_,_,e=>nomatch e
 |_ :: _,0,_,h,e=>by exists e;exact h.1
 |_ :: r,k+1,p,h,e=>allB.get h.2 (by simpa using e)
end
open PySem.SeqAt
end Sm
namespace Sm
open PySem PySem.Spec PyProof.Rows L2
open Ev (D O Hh Fr R aJ E Es Eo It T S Ss Fl Src bN bA TY BI ME)
section
variable{K:Φ}{H H1:Hp}{r:Y1}{h:Hh}{n k:Nat}{c:Ev.Cl}{ds ds':U2}{a dx:Addr}{fs fs':List (Str×V)}
def jJ{fr:Fr}{i:Nat}(e:Ev.jI c h fr[i]?.join=some (n,ds)):fr[i]?=some (some (.ref n))/\h[n]?=some (.obj c ds):=by
 cases z:fr[i]? with
 |none=>rw[z]at e;cases e
 |some o=>
  rw[z]at e;cases o with
  |none=>cases e
  |some d=>
   cases d with
   |ref m=>
    simp only[Option.join,Option.bind,id,Ev.jI]at e;split at e
    .rename_i f ds' y;split at e
     .rename_i b;cases e;subst b;exact⟨rfl,y⟩
     .cases e
    .cases e
   |_=>cases e
theorem Ab{f:Str}{v:V}:∀{fs:List (Str×V)},fs.lookup f≠none->(bV f v fs).length=fs.length
 |[],z=>absurd rfl z
 | (g,x) :: r,z=>by
  rw[show bV f v ((g,x) :: r)=(if g=f then (g,v) :: r else (g,x) :: bV f v r)from rfl];by_cases b:g=f
  .rw[OL b];simp
  .rw[aaH b,aaI,aaI,Ab (fs:=r) (λy=>z (by
    have d:(f==g)=false:=beq_eq_false_iff_ne.mpr λq=>b q.symm;simp only[List.lookup,d];exact y))]
def Fm.iw{C:Addr}{f:Str}{v:V}(I:H a=some (.ins C dx fs))(Z:a∈r)(hf:¬ yk f):Fm K r r H (upd H a (.ins C dx (bV f v fs))) where
 pre:=λn b e=>e
 new:=λb e=>.inl e
 keep:=λb d e n=>by rw[aQ (λz=>n (by rw[z];exact Z))];exact e
 tups:=λb q e=>by
  rcases e with (e|⟨d,e⟩)|e
  .exact .inl (.inl (by rw[aQ (mj e I (by intro z;cases z))];exact e))
  .exact .inl (.inr ⟨d,by rw[aQ (mj e I (by intro z;cases z))];exact e⟩)
  .exact .inr e
 fin:=λb C' x fs' e=>by
  by_cases j:b=a
  .subst j;rw[I]at e;cases e;exact⟨_,bU,λg p=>by rw[cU,aaH (λ(z:g=f)=>hf (by rw[<-z];exact p))]⟩
  .exact⟨fs',by rw[aQ j];exact e,λ_ _=>rfl⟩
def HR.Ww{a0:Addr}(hr:HR K H r h)(hn:h[n]?=some (.obj c ds))(f:Fm K r r H H1)(ag:∀b x,b≠a0->H b=some x->H1 b=some x)(h0:(∃o,H1 a0=some o/\DK o)\/∀(m i k:Nat),h[m]?=some (.cD i k)->r[m]?≠some a0)(k1:∀(j:Nat) o b,h[j]?=some o->rE o=false->(∀ds,o≠.bY ds)->r[j]?=some b->b≠a0)(k2:∀ob vs,H a0≠some (.bY ob vs))(k4:∀(n':Nat) c' ds' b,n'≠n->h[n']?=some (.obj c' ds')->r[n']?=some b->b≠a0)(k5:∀(j n' k:Nat) b,n'≠n->h[j]?=some (.cD n' k)->r[j]?=some b->b≠a0)(nw:rB K H1 r (h.set n (.obj c ds')) n c ds' a dx fs'):HR K H1 r (h.set n (.obj c ds')):=by
 have hl:=(gL hn).1;have bk:∀(j:Nat) o,(h.set n (O.obj c ds'))[j]?=some o->(j=n/\o=.obj c ds')\/(j≠n/\h[j]?=some o):=λj o e=>by
  by_cases p:n=j
  .subst p;rw[WV hl]at e;cases e;exact .inl ⟨rfl,rfl⟩
  .rw[T7 p]at e;exact .inr ⟨λz=>p z.symm,e⟩
 refine⟨by simp[hr.len],λj o e=>?_,λi j b x y G e2 I J=>?_
  ,⟨λj c' L e=>?_,λm i k e=>?_,λm Y b i k o A d g B Z=>?_,λi j b C F M N A d g B=>?_⟩⟩
 .rcases bk j o e with ⟨rfl,rfl⟩|⟨p,e⟩
  .exact⟨a,nw.at_,trivial⟩
  .obtain⟨b,G,z⟩:=hr.ob j o e;refine⟨b,G,?_⟩;by_cases ho:rE o=true
   .cases o with
    |obj _ _=>trivial
    |cD _ _=>trivial
    |_=>cases ho
   .have P:rE o=false:=by simpa using ho
    refine z.mono f (λL us g d=>?_) (λob us d=>ag _ _ (λy=>k2 ob us (y▸d)) d)
    .exact ag _ _ (k1 j o b e P (by subst g;intro _ y;cases y) G) d
 .rcases bk i _ I with ⟨_,q⟩|⟨_,I⟩
  .cases q
  .rcases bk j _ J with ⟨_,q⟩|⟨_,J⟩
   .cases q
   .exact hr.inj i j b x y G e2 I J
 .rcases bk j _ e with ⟨rfl,q⟩|⟨p,e⟩
  .cases q;exact⟨a,dx,fs',nw⟩
  .obtain⟨b,vz,gs,z⟩:=hr.ox.ob j c' L e;exact⟨b,vz,gs,z.go f.pre f.tups (λx w=>ag _ _ (k4 j c' L b p e z.at_) w) (λm k w=>by
    rw[T7 (λy=>by subst y;rw[hn]at w;cases w)];exact w) λm b k x Q X w3=>ag _ _ (k5 m j k b p X Q) w3⟩
 .rcases bk m _ e with ⟨_,q⟩|⟨_,e⟩
  .cases q
  .obtain⟨b,o,A,d,g⟩:=hr.ox.pv m i k e;by_cases hb:b=a0
   .subst hb;rcases h0 with ⟨o',Q,X⟩|w
    .exact⟨b,o',A,Q,X⟩
    .exact absurd A (w m i k e)
   .exact⟨b,o,A,ag b o hb d,g⟩
 .rcases bk m _ g with ⟨_,q⟩|⟨_,g⟩
  .cases q
  .rcases bk Y _ B with ⟨_,q⟩|⟨_,B⟩
   .subst q;cases Z
   .exact hr.ox.jp m Y b i k o A d g B Z
 .have w:∀(i:Nat) C F,(h.set n (O.obj c ds'))[i]?=some (.obj C F)->∃M N,h[i]?=some (.obj M N):=λi C F e=>by
   rcases bk i _ e with ⟨rfl,_⟩|⟨_,e⟩
   .exact⟨c,ds,hn⟩
   .exact⟨C,F,e⟩
  obtain⟨_,_,y1⟩:=w i C F g;obtain⟨_,_,y2⟩:=w j M N B;exact hr.ox.jo i j b _ _ _ _ A d y1 y2
def mQ{ds:U2}{k j:Nat}{d I:D}(e:(ds.set k d)[j]?=some I):(j=k/\I=d)\/(j≠k/\ds[j]?=some I):=by
 by_cases b:k=j
 .subst b;have f:=(gL e).1;rw[List.length_set]at f;rw[WV f]at e;cases e;exact .inl ⟨rfl,rfl⟩
 .rw[T7 b]at e;exact .inr ⟨λz=>b z.symm,e⟩
def D4{l:Γ}(hd:l.Nodup){i j:Nat}{x y:Θ}(hi:l[i]?=some x)(Z:l[j]?=some y)(I:i≠j):aI x≠aI y:=λz=>by
 have e:=wW z;subst e;exact I ((List.getElem?_inj (gL hi).1 hd).mp (hi.trans Z.symm))
def OX.Li(q:OX K H r h){C:Addr}{m i k:Nat}(hi:H a=some (.ins C dx fs))(e:h[m]?=some (.cD i k))(z:r[m]?=some a):False:=by
 obtain⟨b,o,f,g,d⟩:=q.pv m i k e;rw[z]at f;cases f;rw[hi]at g;cases g;rcases d with ⟨_,d⟩|⟨_,d⟩<;>cases d
def HR.Jh{f:Θ}{m:Nat}{b:Addr}{vs ws:T1}{es:U2}(hr:HR K H r h)(hn:h[n]?=some (.obj c ds))(q:rB K H r h n c ds a dx fs)(hk:c.nv<=k/\k<c.nl)(hf:c.nm[k]?=some f)(l1:fs.lookup (aI f)=some (.ref b))(l2:r[m]?=some b)(l3:h[m]?=some (.cD n k))(l4:H b=some (.lst vs))(rv:aV K H r es ws):
  Fm K r r H (upd H b (.lst ws))/\HR K (upd H b (.lst ws)) r (h.set n (.obj c (ds.set k (.tup es)))):=by
 have L:Fm K r r H (upd H b (.lst ws)):=.write l4 (aaC l2);have Q:∀d x,d≠b->H d=some x->upd H b (.lst ws) d=some x:=λd x z e=>by rw[aQ z];exact e
 have pv:∀p j:Nat,h[p]?=some (.cD n j)->(h.set n (O.obj c (ds.set k (.tup es))))[p]?=some (.cD n j):=λp j e=>by rw[T7 (λz=>by subst z;rw[hn]at e;cases e)];exact e
 have Rh:∀(p G j:Nat) d,(G,j)≠(n,k)->h[p]?=some (.cD G j)->r[p]?=some d->d≠b:=λp G j d z A B y=>by
  subst y;have:=hr.ox.jp m p d n k _ l2 B l3 A rfl;subst this;rw[l3]at A;cases A;exact z rfl
 have Y:a≠b:=λz=>by
  subst z;obtain⟨C,_,e⟩:=q.ins;rw[l4]at e;cases e
 refine⟨L,hr.Ww (a0:=b) (a:=a) (dx:=dx) (fs':=fs) hn L Q (.inl ⟨_,bU,.inl ⟨ws,rfl⟩⟩) (λj o d A B e3 e4=>?_) (λob vs z=>by rw[l4]at z;cases z) (λG c' ds' d z A B y=>?_) (λj G k' d z A B=>Rh j G k' d (λy=>z (by cases y;rfl)) A B) ⟨q.at_,?_,by simpa using q.len,q.few,q.nd,q.no,λj g e M J F=>?_,λj g e M J F=>?_,λj g e M J F=>?_⟩⟩
 .intro y;subst y;have:=λ(w:zN o=true)=>hr.ox.jp m j d n k o l2 e4 l3 A w;obtain⟨b2,e5,z⟩:=hr.ob j o A;rw[e4]at e5;cases e5;cases o with
  |lst ds=>have w:=this rfl;subst w;rw[l3]at A;cases A
  |bY ds=>exact e3 ds rfl
  |_=>cases B
 .subst y;obtain⟨a',_,_,w⟩:=hr.ox.ob G c' ds' A;obtain⟨C,_,w2⟩:=w.ins;have:=w.at_;rw[B]at this;cases this;rw[l4]at w2;cases w2
 .obtain⟨C,A,B⟩:=q.ins;exact⟨C,A,Q _ _ Y B⟩
 .rcases mQ F with ⟨rfl,rfl⟩|⟨X,F⟩
  .omega
  .obtain⟨u,A,B⟩:=q.val j g e M J F;exact⟨u,A,B.mono L⟩
 .rcases mQ F with ⟨rfl,rfl⟩|⟨X,F⟩
  .rw[J]at hf;cases hf;exact⟨es,m,b,ws,rfl,l1,l2,pv m _ l3,bU,rv.mono L⟩
  .obtain⟨I,p,d,Z,y1,y2,N,P,y5,y6⟩:=q.lst j g e M J F;exact⟨I,p,d,Z,y1,y2,N,pv p j P,Q _ _ (Rh p n j d (λy=>X (by cases y;rfl)) P N) y5,y6.mono L⟩
 .rcases mQ F with ⟨rfl,rfl⟩|⟨X,F⟩
  .omega
  .obtain⟨I,p,d,y1,y2,N,P,y5⟩:=q.rC j g e M J F;exact⟨I,p,d,y1,y2,N,pv p j P,Q _ _ (Rh p n j d (λy=>X (by cases y;rfl)) P N) y5⟩
def HR.Zn{p:Addr}{vs:T1}(hr:HR K H r h)(hp:H p=none)(n k:Nat):HR K (upd H p (.lst vs)) (r++[p]) (h++[.cD n k]):=by
 have g:∀(j:Nat) o,(h++[O.cD n k])[j]?=some o->h[j]?=some o\/(j=h.length/\o=.cD n k):=λj o e=>by
  by_cases hj:j<h.length
  .rw[jk hj]at e;exact .inl e
  .have P:=(gL e).1;simp only[aaE,abe]at P;have F:j=h.length:=by omega
   subst F;simp at e;exact .inr ⟨rfl,e.symm⟩
 have B:∀(j:Nat) b o,h[j]?=some o->(r++[p])[j]?=some b->r[j]?=some b:=λj b o e z=>by
  rw[jk (by rw[hr.len];exact(gL e).1)]at z;exact z
 have I:∀b x,H b=some x->upd H p (.lst vs) b=some x:=m9 hp;have J:Fm K r (r++[p]) H (upd H p (.lst vs)):=.laid hp;have Y:∀b o,H b=some o->b≠p:=λb o e z=>by subst z;rw[hp]at e;cases e
 have last:∀b,(r++[p])[h.length]?=some b->b=p:=λb e=>by rw[<-hr.len]at e;simp at e;exact e.symm
 have A:∀(j:Nat) o b,zN o=true->h[j]?=some o->r[j]?=some b->b≠p:=λj o b w e z=>by
  cases o with
  |lst ds=>obtain⟨b',L,us,Q,_⟩:=hr.ob j _ e;rw[z]at L;cases L;exact Y _ _ Q
  |cD i kk=>obtain⟨b',o,L,Q,_⟩:=hr.ox.pv j i kk e;rw[z]at L;cases L;exact Y _ _ Q
  |_=>cases w
 refine⟨by simp[hr.len],λj o e=>?_,λi j b x y X P F M=>?_
  ,⟨λj c' es e=>?_,λm i k e=>?_,λm N b i k o G C f d Z=>?_,λi j b c1 d1 c2 d2 G C f d=>?_⟩⟩
 .rcases g j o e with e|⟨rfl,rfl⟩
  .obtain⟨b,X,z⟩:=hr.ob j o e;exact⟨b,J.pre _ _ X,z.mono J (λ_ _ _ w=>I _ _ w) (λ_ _ w=>I _ _ w)
    ⟩
  .exact⟨p,by rw[<-hr.len];simp,trivial⟩
 .rcases g i _ F with F|⟨_,q⟩
  .rcases g j _ M with M|⟨_,q⟩
   .exact hr.inj i j b x y (B _ _ _ F X) (B _ _ _ M P) F M
   .cases q
  .cases q
 .rcases g j _ e with e|⟨_,q⟩
  .obtain⟨b,vz,gs,z⟩:=hr.ox.ob j c' es e;exact⟨b,vz,gs,z.go J.pre J.tups (λx w=>I _ _ w) (λm k w=>by rw[jk (gL w).1];exact w) λm b k x w1 w2 w3=>I _ _ w3⟩
  .cases q
 .rcases g m _ e with e|⟨rfl,q⟩
  .obtain⟨b,o,G,C,f⟩:=hr.ox.pv m i k e;exact⟨b,o,J.pre _ _ G,I _ _ C,f⟩
  .exact⟨p,_,by rw[<-hr.len];simp,bU,.inl ⟨vs,rfl⟩⟩
 .rcases g m _ f with f|⟨rfl,_⟩
  .have y1:=B _ _ _ f G;rcases g N _ d with d|⟨rfl,_⟩
   .exact hr.ox.jp m N b i k o y1 (B _ _ _ d C) f d Z
   .exact absurd (last b C) (A m _ b rfl f y1)
  .rcases g N _ d with d|⟨rfl,_⟩
   .exact absurd (last b G) (A N o b Z d (B _ _ _ d C))
   .rfl
 .rcases g i _ f with f|⟨_,q⟩
  .rcases g j _ d with d|⟨_,q⟩
   .exact hr.ox.jo i j b _ _ _ _ (B _ _ _ f G) (B _ _ _ d C) f d
   .cases q
  .cases q
def HR.Zo{C:Addr}{f:Θ}{p:Addr}(hr:HR K H r h)(hn:h[n]?=some (.obj c ds))(q:rB K H r h n c ds a dx fs)(hi:H a=some (.ins C dx fs))(hk:c.nv<=k/\k<c.nl)(hf:c.nm[k]?=some f)(hF:¬ yk (aI f))(hp:H p=none):
  Fm K r (r++[p]) H (upd (upd H p (.lst [])) a (.ins C dx (bV (aI f) (.ref p) fs)))/\HR K (upd (upd H p (.lst [])) a (.ins C dx (bV (aI f) (.ref p) fs))) (r++[p]) (h.set n (.obj c (ds.set k (.tup [])))++[.cD n k]):=by
 have Y:=(gL hn).1;have A:=hr.Zn (vs:=[]) hp n k;have f1:Fm K r (r++[p]) H (upd H p (.lst [])):=.laid hp;have P:a≠p:=λz=>by subst z;rw[hi]at hp;cases hp
 have d:upd H p (.lst []) a=some (.ins C dx fs):=by rw[aQ P];exact hi
 have L:(h++[O.cD n k])[n]?=some (.obj c ds):=by rw[jk Y];exact hn
 have Z:Fm K (r++[p]) (r++[p]) (upd H p (.lst [])) (upd (upd H p (.lst [])) a (.ins C dx (bV (aI f) (.ref p) fs))):=.iw d (abl _ (aaC q.at_)) hF;refine⟨f1.trans Z,?_⟩;have F:rB K (upd H p (.lst [])) (r++[p]) (h++[.cD n k]) n c ds a dx fs:=q.go f1.pre f1.tups (λx w=>m9 hp _ _ w) (λm k w=>by rw[jk (gL w).1];exact w) λm b k x w1 w2 w3=>m9 hp _ _ w3;have ag:∀b x,b≠a->upd H p (.lst []) b=some x->upd (upd H p (.lst [])) a (.ins C dx (bV (aI f) (.ref p) fs)) b=some x:=λb x z e=>by rw[aQ z];exact e
 have es:h.set n (.obj c (ds.set k (.tup [])))++[O.cD n k]=(h++[O.cD n k]).set n (.obj c (ds.set k (.tup []))):=by rw[List.set_append_left _ _ Y]
 have pv:∀m j:Nat,(h++[O.cD n k])[m]?=some (.cD n j)->((h++[O.cD n k]).set n (O.obj c (ds.set k (.tup []))))[m]?=some (.cD n j):=λm j e=>by rw[T7 (λz=>by subst z;rw[L]at e;cases e)];exact e
 have other:∀(j:Nat) g,c.nm[j]?=some g->j≠k->(bV (aI f) (.ref p) fs).lookup (aI g)=fs.lookup (aI g):=λj g e z=>by rw[cU,aaH (D4 q.nd e hf z)]
 have lk:fs.lookup (aI f)≠none:=by
  have Y:k<ds.length:=by rw[q.len];exact(gL hf).1
  obtain⟨_,_,_,_,_,e,_⟩:=q.lst k f _ hk hf (VW Y);rw[e];intro z;cases z
 rw[es];refine A.Ww (a0:=a) (a:=a) (dx:=dx) (fs':=bV (aI f) (.ref p) fs) L Z ag (.inr λm i k e z=>A.ox.Li d e z) (λj o b I G e3 e4=>?_) (λob vs z=>by rw[d]at z;cases z) (λn' c' ds' b z I G y=>z (A.ox.jo n' n a _ _ _ _ (y▸G) F.at_ I L)) (λj n' k b _ I G y=>?_) ⟨F.at_,?_,by simpa using F.len,by rw[Ab lk];exact F.few,F.nd,λx hx=>?_,λj g e Q J B=>?_,λj g e Q J B=>?_,λj g e Q J B=>?_⟩
 .intro y;subst y;obtain⟨b',e5,z⟩:=A.ob j o I;rw[e4]at e5;cases e5;cases o with
  |lst ds=>obtain⟨us,e6,_⟩:=z;rw[d]at e6;cases e6
  |bY ds=>exact e3 ds rfl
  |_=>cases G
 .subst y;exact A.ox.Li d I G
 .obtain⟨C',I,G⟩:=F.ins;rw[d]at G;cases G;exact⟨_,I,bU⟩
 .rw[cU,aaH (λz=>hx (by rw[z];exact List.mem_map_of_mem (aaC hf)))];exact F.no x hx
 .rcases mQ B with ⟨rfl,rfl⟩|⟨X,B⟩
  .omega
  .obtain⟨u,I,G⟩:=F.val j g e Q J B;exact⟨u,by rw[other j g J X];exact I,G.mono Z⟩
 .rcases mQ B with ⟨rfl,rfl⟩|⟨X,B⟩
  .rw[J]at hf;cases hf;refine⟨[],h.length,p,[],rfl,by rw[cU,OL rfl],by rw[<-hr.len];simp,pv _ _ (by simp),?_,.nil⟩;rw[aQ (λz=>P z.symm)];exact bU
  .obtain⟨M,m,b,vs,y1,y2,y3,y4,N,y6⟩:=F.lst j g e Q J B;exact⟨M,m,b,vs,y1,by rw[other j g J X];exact y2,y3,pv m j y4,ag _ _ (λz=>by subst z;rw[d]at N;cases N) N,y6.mono Z⟩
 .rcases mQ B with ⟨rfl,rfl⟩|⟨X,B⟩
  .omega
  .obtain⟨M,m,b,y1,y2,y3,y4,N⟩:=F.rC j g e Q J B;exact⟨M,m,b,y1,by rw[other j g J X];exact y2,y3,pv m j y4,ag _ _ (λz=>by subst z;rw[d]at N;cases N) N⟩
end
section
variable{G:Tb}{n:Nat}{sc:Scope}{N:X9}{df:Bool}{m:Θ}{a b:E}{xb:Expr}{pos pn apos:Pos}{c:Ev.Cl}{i k:Nat}{o:uc}{f x:Str}{fl:Θ}
def uJ{X:Cx}(g:Good G n sc N df X)(h:vB sc N m x i=true):∃j:Nat,m[j]?=some i/\PE X (.Name x pn) (Dj j):=by
 unfold vB at h;simp only[Bg,abd,abj]at h;obtain⟨⟨⟨e,d⟩,p⟩,q⟩:=h;obtain⟨j,r,y⟩:=hasB.of e;exact⟨j,r,oZ (i:=j) (by rw[g.nm];exact y) (g.vis (by rcases d with (d|d)|d;exact .inl (by simpa using d);exact .inr (.inl (by simpa using d));exact .inr (.inr (by simpa using d)))) p q⟩
def pA{ds es:U2}(e:Ev.o8 c ds k=some es):(c.nv<=k/\k<c.nl)/\ds[k]?=some (.tup es):=by
 unfold Ev.o8 at e;split at e
 .rename_i d;split at e
  .rename_i z;cases e;exact⟨d,z⟩
  .cases e
 .cases e
structure pB(G:Tb)(o:uc)(c:Ev.Cl)(k:Nat)(f:Str):Prop where
 ho:o∈G.oc
 hc:o.c=c
 hn:∃fl,c.nm[k]?=some fl/\f=aI fl
def Ri(F:pB G o c k f)(h:vB sc N m x i=true)(hb:∀env:Env,q3 (.Name x pn) f env:=by intro _;rfl):JE G n sc N df m (.fld c i k) (.Attribute (.Name x pn) f pos):=λX g=>by
 obtain⟨J,K,fl,y,L⟩:=F;subst K;subst L;obtain⟨C,p⟩:=g.oc o J;obtain⟨j,M,pv⟩:=uJ (pn:=pn) g h;refine PE.of (E9 pv (hb _)) λs H Q q=>?_;obtain⟨r,fr,h,d,h',sr,A,e,q⟩:=q;simp only[Ev.ev]at e;split at e
 .rename_i nn ds z;split at e
  .rename_i P;obtain⟨W,rfl⟩:=Ev.aH e;obtain⟨Y,Z⟩:=jJ z;obtain⟨v,y1,a,rfl,B⟩:=sr.sl j i _ M Y;obtain⟨a',dx,fs,w⟩:=A.ox.ob nn _ ds Z;obtain⟨C',I,w2⟩:=w.ins;rw[p.ns]at I;cases I;obtain⟨u,w3,w4⟩:=w.val k fl d P y W;rw[w.at_]at B;cases B;exact⟨_,y1,a,_,dx,fs,u,rfl,w2,p.cl,p.no fl (aaC y),w3,q.here w4 A⟩
  .cases e
 .cases e
inductive Wx(K:Φ)(m:Θ)(c:Ev.Cl)(f:Str)(i k:Nat)(s:L2.St)(H:Hp)(Q:VK):Prop
 |mk (r:Y1) (fr:Fr) (h:Hh) (n:Nat) (ds es:U2) (c0:SR K m H r fr s) (c1:HR K H r h) (c2:Ev.jI c h fr[i]?.join=some (n,ds)) (c3:Ev.o8 c ds k=some es)
  (c4:∀(mm:Nat) b vs a dx fs,rB K H r h n c ds a dx fs->fs.lookup f=some (.ref b)->r[mm]?=some b->h[mm]?=some (.cD n k)->H b=some (.lst vs)->aV K H r es vs->Q (.ref b) H):Wx K m c f i k s H Q
def sW(F:pB G o c k f)(h:vB sc N m x i=true)(hb:∀env:Env,q3 (.Name x pn) f env){X:Cx}(g:Good G n sc N df X):PE X (.Attribute (.Name x pn) f pos) (Wx X.K m c f i k):=by
 obtain⟨I,J,fl,e,L⟩:=F;subst J;subst L;obtain⟨C,d⟩:=g.oc o I;obtain⟨j,M,pv⟩:=uJ (pn:=pn) g h;refine PE.of (E9 pv (hb _)) λs H Q q=>?_;obtain⟨r,fr,h,nn,ds,es,sr,P,z,W,q⟩:=q;obtain⟨Y,Z⟩:=jJ z;obtain⟨hk,zk⟩:=pA W;obtain⟨v,y1,a,rfl,p⟩:=sr.sl j i _ M Y;obtain⟨a',y,fs,w⟩:=P.ox.ob nn _ ds Z;obtain⟨C',A,w2⟩:=w.ins;rw[d.ns]at A;cases A;obtain⟨es',mm,b,vs,w3,B,w5,w6,w7,w8⟩:=w.lst k fl _ hk e zk;cases w3;have y3:=w.at_;rw[y3]at p;cases p;exact⟨_,y1,a,_,y,fs,.ref b,rfl,w2,d.cl,d.no fl (aaC e),B,q mm b vs a y fs w B w5 w6 w7 w8⟩
def vA{P:aJ}{I:Ev.FU}{es:Es}{fr:Fr}{h h':Hh}{d:D}(e:Ev.ev P (.fu c I i k es) fr h=.ok d h'):∃n ds as h1 n1 kK xs,Ev.jI c h fr[i]?.join=some (n,ds)/\Ev.bu P es fr h=.ok as h1/\Ev.jI c h1 fr[i]?.join=some (n1,kK)/\Ev.o8 c kK k=some xs/\Ev.Fw I xs as h1=.ok d h':=by
 simp only[Ev.ev]at e;split at e
 .rename_i g;obtain⟨⟨n,ds⟩,g⟩:=gN g;obtain⟨as,h1,j,e⟩:=Ev.ah e;split at e
  .rename_i n1 kK z;obtain⟨xs,r,p,y⟩:=Ev.ah e;obtain⟨q,rfl⟩:=Ev.aH p;exact⟨n,ds,as,_,n1,kK,xs,g,j,z,q,y⟩
  .cases e
 .cases e
def Ce{p:Pos}(F:pB G o c k f)(h:vB sc N m x i=true)(hb:("len":Str)∈G.bl:=by decide)(hg:sc.names.lookup ("len":Str)=some .globalImplicit:=by rfl)(ha:∀env:Env,q3 (.Name x pn) f env:=by intro _;rfl)(hst:∀env:Env,starEach [.Attribute (.Name x pn) f apos] env=(false,eval (.Attribute (.Name x pn) f apos) env) :: starEach [] env:=by intro _;rfl):
  JE G n sc N df m (.fu c .len i k .nil) (.Call (.Name "len" p) [.Attribute (.Name x pn) f apos] [] pos):=λX g=>by
 refine PE.of (uC m7 (g.gl hg) (g.bl _ hb) (by decide) (fk (sW F h ha g) iz (hst _)) (by decide) (by decide) (hst _) rfl) λs H Q q=>?_;obtain⟨r,z,M,d,P,sr,j,e,q⟩:=q;obtain⟨n,ds,W,Y,n1,A,xs,Z,y,B,C,I⟩:=vA e;simp only[Ev.bu]at y;cases y;cases I;refine⟨r,z,_,n1,A,xs,sr,j,B,C,λmm b J a dx fs w l1 l2 l3 K L=>?_⟩;exact⟨b,J,rfl,.inl (.inl (.inl K)),by rw[L.length];exact q.here rfl j⟩
def Cf(F:pB G o c k f)(h:vB sc N m x i=true)(ha:∀env:Env,q3 (.Name x pn) f env:=by intro _;rfl)(hx:∀(env:Env) whole,isTrue (.Attribute (.Name x pn) f apos) env whole=(do let v <-whole;standAt (Expr.Attribute (.Name x pn) f apos).pos;holding [v] (truthy v)):=by intro _ _;rfl):JT G n sc N df m (.fu c .t9 i k .nil) (.Attribute (.Name x pn) f apos):=λX g=>by
 refine PT.of (zF (sW F h ha g) (hx _)) λs H Q q=>?_;obtain⟨r,z,M,P,W,sr,j,e,q⟩:=q;rw[Ev.eB rfl]at e;obtain⟨d,Y,A,e⟩:=Ev.ah e;obtain⟨n,ds,Z,h2,n1,B,xs,e2,p,C,I,J⟩:=vA A;simp only[Ev.bu]at p;cases p;cases J;simp only[Ev.truthy]at e;cases e;refine⟨r,z,_,n1,B,xs,sr,j,C,I,λmm b y a dx fs w l1 l2 l3 K L=>⟨_,.inl ⟨y,.inl (.inl K),?_⟩,q H r j .refl⟩⟩;have hl:=L.length;cases xs<;>cases y<;>simp_all
def Nu{j:Int}(F:pB G o c k f)(h:vB sc N m x i=true)(hp:∀X,PE X xb (tC (.int j)))(he:∀(P:aJ) fr h,Ev.ev P b fr h=.ok (.int j) h)(hs:wQ xb:=by intro _ _;rfl)(ha:∀env:Env,q3 (.Name x pn) f env:=by intro _;rfl):JE G n sc N df m (.fu c .ix i k (.cons b .nil)) (.Subscript (.Attribute (.Name x pn) f apos) xb pos):=λX g=>by
 refine PE.of (KP BP (sW F h ha g) (hp X) hs) λs H Q q=>?_;obtain⟨r,fr,Y,d,Z,sr,p,e,q⟩:=q;obtain⟨n,ds,as,h1,n1,A,xs,e1,y,B,C,z⟩:=vA e;simp only[Ev.bu,he,Ev.ak]at y;cases y;simp only[Ev.Fw]at z;obtain⟨I,rfl⟩:=Ev.aH z;refine⟨r,fr,_,n1,A,xs,sr,p,B,C,λmm b J a dx fs w l1 l2 l3 K L=>?_⟩;obtain⟨v,M,W⟩:=L.bz I;exact⟨b,J,j,v,rfl,rfl,.inl (.inl K),M,q.here W p⟩
def Ac{z:Nat}{I Z:Pos}(F:pB G o c k f)(h:vB sc N m x i=true)(ha:∀env:Env,q3 (.Name x pn) f env:=by intro _;rfl):
  JE G n sc N df m (.fu c .ix i k (.cons (.neg (.c (.int 1))) .nil)) (.Subscript (.Attribute (.Name x pn) f apos) (.UnaryOp .USub (.Constant (.int 1) z I) Z) pos):=
 Nu F h (λX=>PE.of (KL E3 zC) λs H Q q=>⟨1,rfl,q⟩) (λP d h=>by simp only[Ev.ev,Ev.ak]) (by intro _ _;rfl) ha
def fin_same{K:Φ}{H1 H2:Hp}{r1 r2:Y1}{h h1:Hh}{nn:Nat}{ds kK Z:U2}{a1 dx b:Addr}{fs:List (Str×V)}(hr2:HR K H2 r2 h1)(z2:h1[nn]?=some (.obj c kK))(w:rB K H1 r1 h nn c ds a1 dx fs)(l:fs.lookup (aI fl)=some (.ref b))(hF:yk (aI fl))(f2:Fm K r1 r2 H1 H2)(hn:c.nm[k]?=some fl)(e:Ev.o8 c kK k=some Z):∃(mm:Nat) (vs:T1) (vz:Addr) (fs':List (Str×V)),rB K H2 r2 h1 nn c kK a1 vz fs'/\fs'.lookup (aI fl)=some (.ref b)/\r2[mm]?=some b/\h1[mm]?=some (.cD nn k)/\H2 b=some (.lst vs)/\aV K H2 r2 Z vs:=by
 obtain⟨r,y⟩:=pA e;obtain⟨J,vz,fs',d⟩:=hr2.ox.ob nn c kK z2;have z:=f2.pre _ _ w.at_;have g:=d.at_;rw[z]at g;cases g;obtain⟨C,_,i1⟩:=w.ins;obtain⟨C',_,i2⟩:=d.ins;obtain⟨L,j,p⟩:=f2.fin a1 C dx fs i1;rw[i2]at j;cases j;obtain⟨M,mm,P,vs,A,q,B,F,H,I⟩:=d.lst k fl _ r hn y;cases A;rw[p _ hF,l]at q;cases q;exact⟨mm,vs,_,_,d,by rw[p _ hF];exact l,B,F,H,I⟩
def Vs{K:Φ}{H:Hp}{r:Y1}{h:Hh}{nn:Nat}{ds:U2}(hr:HR K H r h)(I:h[nn]?=some (.obj c ds))(z:c.nv<=k/\k<c.nl)(hn:c.nm[k]?=some fl):∃es,Ev.o8 c ds k=some es:=by
 obtain⟨a,g,fs,w⟩:=hr.ox.ob nn c ds I;have d:k<ds.length:=by rw[w.len];exact(gL hn).1
 obtain⟨es,_,_,_,e,_⟩:=w.lst k fl _ z hn (VW d);exact⟨es,by unfold Ev.o8;rw[OL z,VW d,e]⟩
def Nv{e0:Expr}{p2:Pos}(F:pB G o c k f)(hF:yk f)(h:vB sc N m x i=true)(hb:JE G n sc N df m b e0)(ha:∀env:Env,q3 (.Name x pn) f env:=by intro _;rfl)(hbase:∀env:Env,q3 (.Attribute (.Name x pn) f apos) "append" env:=by intro _;rfl)(hfew:∀env:Env,((backTo pos (starEach [e0] env)).all (λx=>!x.1)&&(backToKw pos (keywordEach [] env)).all (λx=>x.1.isSome)
   &&decide ([e0].length+([]:List Keyword).length+(if ([]:List Keyword).isEmpty then 0 else 1)<30))=true:=by intro _;rfl)(hline:(p2.endLine==pos.line)=true:=by rfl)(hst:∀env:Env,starEach [e0] env=(false,eval e0 env) :: starEach [] env:=by intro _;rfl):
  JE G n sc N df m (.fm c .app i k (.cons b .nil)) (.Call (.Attribute (.Attribute (.Name x pn) f apos) "append" p2) [e0] [] pos):=λX g=>by
 have F':=F;obtain⟨_,_,fl,I,rfl⟩:=F;refine PE.of (DB aa8 ack acj nU (sW F' h ha g) (fk (hb X g) iz (hst _)) (hbase _) (hfew _) hline (hst _) rfl) λs H Q q=>?_;obtain⟨r,L,hh,d,h',sr,J,e,q⟩:=q;simp only[Ev.ev]at e;split at e
 case isFalse=>cases e
 rename_i B;obtain⟨⟨nn,ds⟩,B⟩:=gN B;obtain⟨as,h1,j,e⟩:=Ev.ah e;split at e
 case h_2=>cases e
 rename_i n1 kK z;obtain⟨p,h2,Z,y⟩:=Ev.ah e;obtain⟨y2,rfl⟩:=Ev.aH Z;obtain⟨xs,K,C⟩:=kA y2;simp only[Ev.bu]at j;obtain⟨d1,h3,e3,j⟩:=Ev.ah j;simp only[Ev.ak]at j;cases j;obtain⟨z1,z2⟩:=jJ B;obtain⟨M,P⟩:=jJ z;rw[z1]at M;cases M;simp only[Ev.Fx]at C;split at C
 case isFalse=>cases C
 rename_i hz;cases C;cases y;obtain⟨es,e4⟩:=Vs J z2 (pA K).1 I;refine⟨r,L,_,nn,ds,es,sr,J,B,e4,λmm b vs a dx fs w l1 l2 l3 l4 l5=>⟨.inl ⟨rfl,vs,.inl (.inl l4)⟩,?_⟩⟩;refine⟨r,L,_,d1,_,sr,J,e3,λv H2 r2 v2 A f2=>?_⟩;obtain⟨Wy,rK,dx2,P5,w2,k1,k2,k3,W,Y⟩:=fin_same A P w l1 hF f2 I K;refine⟨b,rK,v,rfl,rfl,W,by rw[Y.length,<-o9];exact hz,?_⟩;obtain⟨g1,g2⟩:=A.Jh P w2 (pA K).1 I k1 k2 k3 W (Y.append (.cons v2 .nil));exact q _ _ r2 rfl g2 (f2.trans g1)
def Lj{j:Nat}{f2:Str}{o2:uc}{rM nX p2 p3 p4:Pos}(F:pB G o c k f)(F2:pB G o2 c j f2)(h:vB sc N m x i=true)(ha:∀env:Env,q3 (.Name x pn) f env:=by intro _;rfl)(ha2:∀env:Env,q3 (.Name x rM) f2 env:=by intro _;rfl)(hbase:∀env:Env,q3 (.Attribute (.Name x pn) f apos) "append" env:=by intro _;rfl)(Rj:∀env:Env,q3 (.Attribute (.Name x rM) f2 nX) "pop" env:=by intro _;rfl)(Rk:(p3.endLine==p4.line)=true:=by rfl)(hfew:∀env:Env,((backTo pos (starEach [.Call (.Attribute (.Attribute (.Name x rM) f2 nX) "pop" p3) [] [] p4] env)).all (λx=>!x.1)&&(backToKw pos (keywordEach [] env)).all (λx=>x.1.isSome)
   &&decide ([Expr.Call (.Attribute (.Attribute (.Name x rM) f2 nX) "pop" p3) [] [] p4].length+([]:List Keyword).length+(if ([]:List Keyword).isEmpty then 0 else 1)<30))=true:=by intro _;rfl)(hline:(p2.endLine==pos.line)=true:=by rfl)(hst:∀env:Env,starEach [.Call (.Attribute (.Attribute (.Name x rM) f2 nX) "pop" p3) [] [] p4] env=(false,eval (.Call (.Attribute (.Attribute (.Name x rM) f2 nX) "pop" p3) [] [] p4) env) :: starEach [] env:=by intro _;rfl):
  JE G n sc N df m (.mv c i k j) (.Call (.Attribute (.Attribute (.Name x pn) f apos) "append" p2) [.Call (.Attribute (.Attribute (.Name x rM) f2 nX) "pop" p3) [] [] p4] [] pos):=λX g=>by
 have F':=F;have F2':=F2;obtain⟨_,_,fl,hn,rfl⟩:=F;obtain⟨_,_,Cg,M,rfl⟩:=F2;refine PE.of (DB aa8 ack acj nU (sW F' h ha g) (fk (Fi aa8 adt ads Fp (sW F2' h ha2 g) (Rj _) Rk) iz (hst _)) (hbase _) (hfew _) hline (hst _) rfl) λs H Q q=>?_;obtain⟨r,fr,hh,d,h',sr,I,e,q⟩:=q;simp only[Ev.ev]at e;split at e
 case h_2=>cases e
 rename_i nn ds P;obtain⟨ds',h2,e2,y⟩:=Ev.ah e;obtain⟨p,rfl⟩:=Ev.aH e2;cases y;unfold Ev.KR at p;obtain⟨xs,y3,p⟩:=kA p;obtain⟨A,y4,p⟩:=kA p;split at p
 case h_2=>cases p
 rename_i yv hy;split at p
 case isFalse=>cases p
 rename_i hz;cases p;obtain⟨z1,W⟩:=jJ P;refine⟨r,fr,_,nn,ds,xs,sr,I,P,y3,λmm b Y a dx fs w l1 l2 B l4 l5=>⟨.inl ⟨rfl,Y,.inl (.inl l4)⟩,?_⟩⟩;refine⟨r,fr,_,nn,ds,A,sr,I,P,y4,λWy J L a2 dx2 P5 w' n1 n2 n3 n4 n5=>⟨.inl ⟨rfl,L,.inl (.inl n4)⟩,?_⟩⟩;obtain⟨vy,g4,g5⟩:=n5.get hy;refine⟨J,L,vy,rfl,rfl,n4,by rw[n5.length];exact g4,?_⟩;have hd:aV X.K H r A.dropLast L.dropLast:=by
  rw[abr,abr,n5.length];exact n5.take _
 obtain⟨Z,g2⟩:=I.Jh W w' (pA y4).1 M n1 n2 n3 n4 hd;have hl:=(gL W).1;have Wz:(h2.set nn (O.obj c (ds.set j (.tup A.dropLast))))[nn]?=some (.obj c (ds.set j (.tup A.dropLast))):=WV hl;have hb:b≠J:=λz=>by
  subst z;have:=I.ox.jp mm Wy b nn k _ l2 n2 B n3 rfl;subst this;rw[B]at n3;cases n3;exact hz.2 rfl
 obtain⟨a3,dx3,fs3,w3⟩:=g2.ox.ob nn c _ Wz;have ya:=w.at_;have yb:=w3.at_;rw[ya]at yb;cases yb;obtain⟨C,_,i1⟩:=w.ins;obtain⟨C',_,i2⟩:=w3.ins;have ab2:a≠J:=λz=>by subst z;rw[i1]at n4;cases n4
 rw[aQ ab2,i1]at i2;cases i2;have WA:upd H J (.lst L.dropLast) b=some (.lst Y):=by rw[aQ hb];exact l4
 have l3':(h2.set nn (O.obj c (ds.set j (.tup A.dropLast))))[mm]?=some (.cD nn k):=by rw[T7 (λz=>by subst z;rw[W]at B;cases B)];exact B
 refine⟨b,Y,vy,rfl,rfl,WA,by rw[l5.length,<-o9];exact hz.1,?_⟩;obtain⟨g3,g6⟩:=g2.Jh Wz w3 (pA y3).1 hn l1 l2 l3' WA ((l5.mono Z).append (.cons (g5.mono Z) .nil));rw[List.set_set]at g6;exact q _ _ r rfl g6 (Z.trans g3)
def Rl{p1 pos':Pos}(F:pB G o c k f)(hF:¬ yk f)(h:vB sc N m x i=true)(hs:∀env:Env,swapsWith (.List [] p1) (some (.Attribute (.Name x pn) f pos')) pos.line env=pure false:=by intro _;rfl):JS G n sc N df m (.q9 c i k) (.Assign [.Attribute (.Name x pn) f pos'] (.List [] p1) pos):=λX g=>by
 obtain⟨W,Y,fl,B,Z⟩:=F;subst Y;subst Z;obtain⟨C,A⟩:=g.oc o W;obtain⟨j,hj,pv⟩:=uJ (pn:=pn) g h;refine PS.of (zG pv (vf iz) (hs _)) λQ s H q=>?_;obtain⟨r,fr,hh,yG,aj,h',sr,I,e,q⟩:=q;simp only[Ev.iM]at e;split at e
 case h_2=>cases e
 rename_i nn ds z;split at e
 case isFalse=>cases e
 rename_i hk;cases e;obtain⟨z1,J⟩:=jJ z;refine⟨by show 0<=sizeLine;omega,λp K=>?_⟩;obtain⟨v,y1,a,rfl,L⟩:=sr.sl j i _ hj z1;obtain⟨a',dx,fs,w⟩:=I.ox.ob nn _ ds J;obtain⟨C',M,d⟩:=w.ins;rw[A.ns]at M;cases M;have y3:=w.at_;rw[y3]at L;cases L;obtain⟨P,g2⟩:=I.Zo J w d hk.1 B hF K;exact⟨_,y1,a,_,dx,fs,rfl,by rw[aQ (λy=>by subst y;rw[K]at d;cases d)];exact d,A.cl,A.no fl (aaC B),w.few,q _ _ _ (sr.mono P) g2 P⟩
def Gq{f' ff:Nat}{mn:Str}{es:Es}{e0:Expr}{xs:Kx}{pl:Env->Sem Bool}(ho:o∈G.oc)(hc:o.c=c)(hm:(mn,f')∈o.ms)(hf:ff=G.fi.length+f')(h:vB sc N m x i=true)(hs:JA G n sc N df m es (e0 :: xs))(hst:∀env:Env,qN e0 xs env:=by intro _;rfl)(hpl:∀env:Env,qW pos xs env:=by intro _;rfl)(ht:∀env:Env,eval (.Call (.Attribute (.Name x pn) mn apos) (e0 :: xs) [] pos) env=(do
   let ov <-eval (.Name x pn) env
   standAt apos.atName
   let (f,first) <-holding [ov] (getMethod ov mn (pl env))
   callWith pos f first (backTo pos (starEach (e0 :: xs) env)) (backToKw pos (keywordEach [] env))):=by intro _;rfl):
  JE G n sc N df m (.fq c ff (.cons (.v i) es)) (.Call (.Attribute (.Name x pn) mn apos) (e0 :: xs) [] pos):=λX g=>by
 subst hc;subst hf;obtain⟨C,oc⟩:=g.oc o ho;obtain⟨fi,P,W,Y⟩:=oc.ms _ hm;obtain⟨k1,Z,k3⟩:=g.mt f' fi P;obtain⟨j,hj,pv⟩:=uJ (pn:=pn) g h;refine PE.of (MK (pl:=pl X.env) pv oc.cl W k3 g.room Z .nil zf (hs X g) (hst _) (hpl _) (ht _)) λs H Q q=>?_;obtain⟨r,fr,hh,d,h',sr,B,e,q⟩:=q;simp only[Ev.ev]at e;split at e
 case isFalse=>cases e
 rename_i p;simp only[Ev.ri]at p;obtain⟨⟨nn,ds⟩,p⟩:=gN p;obtain⟨F,z2⟩:=jJ p;obtain⟨as,h1,y,e⟩:=Ev.ah e;simp only[Ev.bu,Ev.ev,F,Option.join,Option.bind,id,Ev.bS,Ev.ak]at y;obtain⟨z,h2,e2,y⟩:=Ev.ah y;cases y;obtain⟨v,y1,a,rfl,I⟩:=sr.sl j i _ hj F;obtain⟨a',dx,fs,w⟩:=B.ox.ob nn _ ds z2;obtain⟨C',J,w2⟩:=w.ins;rw[oc.ns]at J;cases J;have L:=w.at_;rw[L]at I;cases I;refine⟨_,y1,a,dx,fs,rfl,w2,w.no _ Y,r,fr,hh,z,_,sr,B,e2,λvs H1 M v1 A f1=>?_⟩;exact⟨M,_,_,d,h',.cons (show RV X.K H1 M (.ref nn) (.ref a)from ⟨a,rfl,f1.pre _ _ L⟩) (by rw[aaJ];exact v1),A,e,q.later f1⟩
def sX{f' ff:Nat}{mn:Str}{pl:Env->Sem Bool}(ho:o∈G.oc)(hc:o.c=c)(hm:(mn,f')∈o.ms)(hf:ff=G.fi.length+f')(h:vB sc N m x i=true)(ht:∀env:Env,eval (.Call (.Attribute (.Name x pn) mn apos) [] [] pos) env=(do
   let ov <-eval (.Name x pn) env
   standAt apos.atName
   let (f,first) <-holding [ov] (getMethod ov mn (pl env))
   callWith pos f first (backTo pos (starEach [] env)) (backToKw pos (keywordEach [] env))):=by intro _;rfl):
  JE G n sc N df m (.fq c ff (.cons (.v i) .nil)) (.Call (.Attribute (.Name x pn) mn apos) [] [] pos):=λX g=>by
 subst hc;subst hf;obtain⟨C,oc⟩:=g.oc o ho;obtain⟨fi,J,L,M⟩:=oc.ms _ hm;obtain⟨k1,P,W⟩:=g.mt f' fi J;obtain⟨j,Y,pv⟩:=uJ (pn:=pn) g h;refine PE.of (Iz (pl:=pl X.env) pv oc.cl L W g.room P .nil zf (ht _)) λs H Q q=>?_;obtain⟨r,fr,hh,d,Z,sr,y,e,q⟩:=q;simp only[Ev.ev]at e;split at e
 case isFalse=>cases e
 rename_i p;simp only[Ev.ri]at p;obtain⟨⟨nn,ds⟩,p⟩:=gN p;obtain⟨z,z2⟩:=jJ p;obtain⟨as,h1,A,e⟩:=Ev.ah e;simp only[Ev.bu,Ev.ev,z,Option.join,Option.bind,id,Ev.bS,Ev.ak]at A;cases A;obtain⟨v,y1,a,rfl,B⟩:=sr.sl j i _ Y z;obtain⟨a',dx,fs,w⟩:=y.ox.ob nn _ ds z2;obtain⟨C',F,w2⟩:=w.ins;rw[oc.ns]at F;cases F;have I:=w.at_;rw[I]at B;cases B;exact⟨_,y1,a,dx,fs,rfl,w2,w.no _ M,r,_,_,d,Z,.cons (show RV X.K H r (.ref nn) (.ref a)from ⟨a,rfl,I⟩) (by simp[aV]),y,e,q⟩
end
inductive Ji(K:Φ)(ks:List (Str×IK))(Q:Ends)(s:L2.St)(H:Hp):Prop
 |mk (x C dx:Addr) (as:T1) (fs:List (Str×V)) (c0:s=(V.ref x :: as).map some) (c1:H x=some (.ins C dx fs)) (c2:mZ K C) (c3:∀p∈ks,iy K C p.1) (c4:fs.length+ks.length<1000) (c5:rF x C dx as ks H fs λH'=>Q.nx s H'):Ji K ks Q s H
def Ad(sc:Scope)(N:X9)(ks:List (Str×IK))(xs:List Stmt):Prop:=∀X:Cx,X.N=N->X.env.scope=sc->fT X xs (Ji X.K ks)
section
variable{sc:Scope}{N:X9}{ks:List (Str×IK)}{xs:List Stmt}{f y:Str}{p1 p2 p3 pos:Pos}{j:Nat}
def Nx:Ad sc N [] []:=λX _ _=>fT.of wI λQ s H q=>by
 obtain⟨x,C,b,c,fs,d,e,g,h,k,a⟩:=q;exact a
def Gs(sc:Scope)(N:X9)(y:Str)(j:Nat):Bool:=N[j]?==some y&&(sc.names.lookup y==some .local)&&!(y==("__debug__":Str))&&!(y==("__classdict__":Str))
def Jj{X:Cx}(z:X.N=N)(I:X.env.scope=sc)(h:Gs sc N y j=true):PE X (.Name y p1) (Dj j):=by
 unfold Gs at h;simp only[Bg,abd]at h;exact oZ (by rw[z];simpa using h.1.1.1) (by rw[I];exact .inl (by simpa using h.1.1.2)) h.1.2 h.2
def Gu{K:Φ}{x C dx:Addr}{as:T1}{fs:List (Str×V)}{z:IK}{H:Hp}{Q:Ends}{v:V}(c2:mZ K C)(c3:∀p∈(f,z) :: ks,iy K C p.1)(c4:fs.length+((f,z) :: ks).length<1000)(c5:rF x C dx as ks (upd H x (.ins C dx (bV f v fs))) (bV f v fs) λH'=>Q.nx ((V.ref x :: as).map some) H'):
  Ji K ks Q ((V.ref x :: as).map some) (upd H x (.ins C dx (bV f v fs))):=
 ⟨x,C,dx,as,bV f v fs,rfl,bU,c2,λp a=>c3 p (aaM _ a),by have:=jH f v fs;simp only[aaI]at c4;omega,c5⟩
def Ny(I:Gs sc N ("self":Str) 0=true)(h1:Gs sc N y (j+1)=true)(hr:Ad sc N ks xs)(Z:∀env:Env,swapsWith (.Name y p3) (some (.Attribute (.Name "self" p1) f p2)) pos.line env=pure false:=by intro _;rfl):Ad sc N ((f,.arg j) :: ks) (.Assign [.Attribute (.Name "self" p1) f p2] (.Name y p3) pos :: xs):=λX a b=>by
 refine fT.of (jR (zG (Jj a b I) (Jj a b h1) (Z _)) (hr X a b)) λQ s H q=>?_;obtain⟨x,C,e,z,fs,g,h,c,d,k,v,p,r⟩:=q;subst g;exact⟨v,by simp[p],.ref x,rfl,x,C,e,fs,rfl,h,c,d _ (aa4 ..),by omega,Gu c d k r⟩
def Gv(I:Gs sc N ("self":Str) 0=true)(hr:Ad sc N ks xs)(Z:∀env:Env,swapsWith (.List [] p3) (some (.Attribute (.Name "self" p1) f p2)) pos.line env=pure false:=by intro _;rfl):Ad sc N ((f,.lst []) :: ks) (.Assign [.Attribute (.Name "self" p1) f p2] (.List [] p3) pos :: xs):=λX a b=>by
 refine fT.of (jR (zG (Jj a b I) (vf iz) (Z _)) (hr X a b)) λQ s H q=>?_;obtain⟨x,C,h,B,fs,k,c,d,e,r,F,z,G,A⟩:=q;subst k;cases z;refine⟨by show 0<=sizeLine;omega,λp g=>?_⟩;exact⟨.ref x,rfl,x,C,h,fs,rfl,by rw[aQ (bH c g)];exact c,d,e _ (aa4 ..),by omega,Gu d e r (A p g)⟩
def Rm{P:Program}{w:World}{K:Φ}{mg:W1}{base:Heap}{o:uc}{C:Addr}{qual:Str}{st:Stmt}(F:o6 K "__init__" qual st o.ini.addr o.ini.fd)(S:aW o.ini.ps o.ini.ps (av st))(ns:W.nsIn K mainGlobals (aI o.c.cn)=some (some (.ref C)))(cl:mZ K C)(no:∀f∈o.c.nm,iy K C (aI f))(hl:0<o.ini.ps.length)(Z:(ng o.c 0 o.c.nm o.tp).length<1000)(hm:∀p∈ng o.c 0 o.c.nm o.tp,∃f∈o.c.nm,p.1=aI f)(hb:Ad (av st) o.ini.ps (ng o.c 0 o.c.nm o.tp) (cV st))(k:Nat):eT P w K mg base kJ (k+1) o.ini.addr o.ini.fd o.ini.ps (Wj K o (o.ini.ps.length - 1)):=by
 refine F.ok S (λq H Q E h=>?_) (λr A a s H q Q E L h=>?_)
 .obtain⟨x,C',d,b,rfl,e,_⟩:=h;simp only[aaI];omega
 .obtain⟨x,C',d,b,rfl,e,g,z,B⟩:=h;rw[ns]at g;cases g;refine⟨_,hb _ rfl rfl,x,_,d,b,[],?_,z,cl,λp G=>?_,by simpa using Z,B⟩
  .unfold L2.start;rw[show o.ini.ps.length - (V.ref x :: b).length=0 by simp only[aaI];omega];simp
  .obtain⟨f,I,J⟩:=hm p G;rw[J];exact no f I
end
def rN(c:Ev.Cl):Nat->List Ev.TP->Bool
 |_,[]=>true
 |k,.a _ :: r=>decide (k<c.nv)&&rN c (k+1) r
 |k,.t _ :: r=>decide (c.nv<=k/\k<c.nl)&&rN c (k+1) r
 |k,.c d :: r=>(match d with
   |.int _=>decide (k<c.nv)
   |.aN=>decide (k<c.nv)
   |.tup []=>decide (c.nv<=k)
   |_=>false)&&rN c (k+1) r
structure nh(K:Φ)(H1:Hp)(r1:Y1)(c:Ev.Cl)(x C dx:Addr)(ds:U2)(k:Nat)(Hk:Hp)(fs:List (Str×V))(ps:Y1):Prop where
 more:∀b o,H1 b=some o->Hk b=some o
 x0:H1 x=none
 ax:Hk x=some (.ins C dx fs)
 few:fs.length<=k
 no:∀y,y∉(c.nm.take k).map aI->fs.lookup y=none
 val:∀(j:Nat) f d,j<k->j<c.nv->c.nm[j]?=some f->ds[j]?=some d->∃v,fs.lookup (aI f)=some v/\RV K H1 r1 d v
 lst:∀(j:Nat) f d,j<k->c.nv<=j/\j<c.nl->c.nm[j]?=some f->ds[j]?=some d->∃es b us,d=.tup es/\fs.lookup (aI f)=some (.ref b)/\ps[j - c.nv]?=some b/\Hk b=some (.lst us)/\aV K H1 r1 es us
 rC:∀(j:Nat) f d,j<k->c.nv<=j/\c.nl<=j->c.nm[j]?=some f->ds[j]?=some d->∃b,d=.tup []/\fs.lookup (aI f)=some (.ref b)/\ps[j - c.nv]?=some b/\Hk b=some (.dK [])
 pl:ps.length=k - c.nv
 pf:∀b∈ps,H1 b=none/\b≠x/\∃o,Hk b=some o/\DK o
 nd:ps.Nodup
section
variable{K:Φ}{H1 Hk:Hp}{r1:Y1}{c:Ev.Cl}{x C dx:Addr}{ds:U2}{k:Nat}{fs:List (Str×V)}{ps:Y1}{f:Θ}{d:D}{h1:Hh}
def Ci{y:Str}(I:c.nm[k]?=some f)(z:y∉(c.nm.take (k+1)).map aI):y≠aI f/\y∉(c.nm.take k).map aI:=by
 rw[List.take_succ,I]at z;simp only[Option.toList_some,aaG,aaD,ac5,acd,aa2,not_or]at z;exact⟨z.2,z.1⟩
def nh.value{v:V}(q:nh K H1 r1 c x C dx ds k Hk fs ps)(nd:c.nm.Nodup)(hk:k<c.nv)(Z:c.nm[k]?=some f)(hd:ds[k]?=some d)(rv:RV K H1 r1 d v):nh K H1 r1 c x C dx ds (k+1) (upd Hk x (.ins C dx (bV (aI f) v fs))) (bV (aI f) v fs) ps:=by
 have other:∀(j:Nat) g,c.nm[j]?=some g->j<k->(bV (aI f) v fs).lookup (aI g)=fs.lookup (aI g):=λj g e z=>by rw[cU,aaH (D4 nd e Z (by omega))]
 have G:∀b o,b≠x->Hk b=some o->upd Hk x (.ins C dx (bV (aI f) v fs)) b=some o:=λb o z e=>by rw[aQ z];exact e
 refine⟨λb o e=>G b o (λz=>by subst z;rw[q.x0]at e;cases e) (q.more b o e),q.x0,bU,by have:=jH (aI f) v fs;have:=q.few;omega,λy I=>?_,λj g e H B a p=>?_,λj g e H B a p=>?_,λj g e H B a p=>?_,by have:=q.pl;omega,λb J=>?_,q.nd⟩
 .obtain⟨r,h⟩:=Ci Z I;rw[cU,aaH r];exact q.no y h
 .by_cases L:j=k
  .subst L;rw[Z]at a;rw[hd]at p;cases a;cases p;exact⟨v,by rw[cU,OL rfl],rv⟩
  .rw[other j g a (by omega)];exact q.val j g e (by omega) B a p
 .obtain⟨M,b,N,r,h,A,F,P⟩:=q.lst j g e (by omega) B a p;exact⟨M,b,N,r,by rw[other j g a (by omega)];exact h,A,G _ _ (q.pf b (aaC A)).2.1 F,P⟩
 .obtain⟨b,r,h,A,F⟩:=q.rC j g e (by omega) B a p;exact⟨b,r,by rw[other j g a (by omega)];exact h,A,G _ _ (q.pf b (aaC A)).2.1 F⟩
 .obtain⟨r,h,o,A,F⟩:=q.pf b J;exact⟨r,h,o,G _ _ h A,F⟩
def nh.cD{p:Addr}{o:HO}(q:nh K H1 r1 c x C dx ds k Hk fs ps)(nd:c.nm.Nodup)(hk:c.nv<=k)(hf:c.nm[k]?=some f)(hp:Hk p=none)(ho:DK o)(hl:k<c.nl->∃es us,ds[k]?=some (.tup es)/\o=.lst us/\aV K H1 r1 es us)(hd:c.nl<=k->ds[k]?=some (.tup [])/\o=.dK []):
  nh K H1 r1 c x C dx ds (k+1) (upd (upd Hk p o) x (.ins C dx (bV (aI f) (.ref p) fs))) (bV (aI f) (.ref p) fs) (ps++[p]):=by
 have other:∀(j:Nat) g,c.nm[j]?=some g->j<k->(bV (aI f) (.ref p) fs).lookup (aI g)=fs.lookup (aI g):=λj g e z=>by rw[cU,aaH (D4 nd e hf (by omega))]
 have X:p≠x:=λz=>by subst z;rw[q.ax]at hp;cases hp
 have N:∀b A,b≠x->Hk b=some A->upd (upd Hk p o) x (.ins C dx (bV (aI f) (.ref p) fs)) b=some A:=λb A z e=>by rw[aQ z,aQ (λy=>by subst y;rw[hp]at e;cases e)];exact e
 have I:upd (upd Hk p o) x (.ins C dx (bV (aI f) (.ref p) fs)) p=some o:=by rw[aQ X];exact bU
 have P:H1 p=none:=by
  cases e:H1 p with
  |none=>rfl
  |some o=>rw[q.more p o e]at hp;cases hp
 have L:∀(j:Nat) b,ps[j]?=some b->(ps++[p])[j]?=some b:=λj b e=>by rw[jk (gL e).1];exact e
 have last:(ps++[p])[k - c.nv]?=some p:=by rw[<-q.pl];simp
 have Zp:p∉ps:=λz=>by obtain⟨_,_,A,e,_⟩:=q.pf p z;rw[hp]at e;cases e
 refine⟨λb A e=>N b A (λz=>by subst z;rw[q.x0]at e;cases e) (q.more b A e),q.x0,bU,by have:=jH (aI f) (.ref p) fs;have:=q.few;omega,λy Z=>?_,λj g e Y J h B=>?_,λj g e Y J h B=>?_,λj g e Y J h B=>?_,by have:=q.pl;simp only[aaE,abe];omega,λb F=>?_,?_⟩
 .obtain⟨r,H⟩:=Ci hf Z;rw[cU,aaH r];exact q.no y H
 .rw[other j g h (by omega)];exact q.val j g e (by omega) J h B
 .by_cases Q:j=k
  .subst Q;rw[hf]at h;cases h;obtain⟨es,us,r,rfl,G⟩:=hl J.2;rw[r]at B;cases B;exact⟨es,p,us,rfl,by rw[cU,OL rfl],last,I,G⟩
  .obtain⟨es,b,us,r,H,G,M,a5⟩:=q.lst j g e (by omega) J h B;exact⟨es,b,us,r,by rw[other j g h (by omega)];exact H,L _ _ G,N _ _ (q.pf b (aaC G)).2.1 M,a5⟩
 .by_cases Q:j=k
  .subst Q;rw[hf]at h;cases h;obtain⟨r,rfl⟩:=hd J.2;rw[r]at B;cases B;exact⟨p,rfl,by rw[cU,OL rfl],last,I⟩
  .obtain⟨b,r,H,G,M⟩:=q.rC j g e (by omega) J h B;exact⟨b,r,by rw[other j g h (by omega)];exact H,L _ _ G,N _ _ (q.pf b (aaC G)).2.1 M⟩
 .rcases k8 F with F|F
  .obtain⟨r,H,A,G,M⟩:=q.pf b F;exact⟨r,H,A,N _ _ H G,M⟩
  .rw[aa2]at F;subst F;exact⟨P,X,o,I,ho⟩
 .rw[List.nodup_append];exact⟨q.nd,by simp,λa ha b F z=>by rw[aa2]at F;subst F;subst z;exact Zp ha⟩
theorem Ae:∀{n lo t j:Nat}{o:O},(Ev.iX n lo t)[j]?=some o->o=.cD n (lo+j)/\j<t
 |_,_,0,_,_,e=>by simp[Ev.iX]at e
 |n,lo,t+1,0,o,e=>by simp[Ev.iX]at e;exact⟨e.symm,by omega⟩
 |n,lo,t+1,j+1,o,e=>by
  obtain⟨a,b⟩:=Ae (n:=n) (lo:=lo+1) (t:=t) (j:=j) (by simpa[Ev.iX]using e);exact⟨by rw[a];congr 1;omega,by omega⟩
theorem Cj:∀{n lo t j:Nat},j<t->(Ev.iX n lo t)[j]?=some (.cD n (lo+j))
 |_,_,0,_,h=>absurd h (by omega)
 |n,lo,t+1,0,_=>by simp[Ev.iX]
 |n,lo,t+1,j+1,h=>by
  have:=Cj (n:=n) (lo:=lo+1) (t:=t) (j:=j) (by omega);rw[show lo+1+j=lo+(j+1)by omega]at this;simpa[Ev.iX]using this
theorem Af:∀{n lo t:Nat},(Ev.iX n lo t).length=t
 |_,_,0=>rfl
 |n,lo,t+1=>by simp[Ev.iX,Af (n:=n) (lo:=lo+1) (t:=t)]
def nh.done(q:nh K H1 r1 c x C dx ds c.nm.length Hk fs ps)(hr:HR K H1 r1 h1)(nd:c.nm.Nodup)(hn:c.nm.length<1000)(hl:ds.length=c.nm.length)(ns:W.nsIn K mainGlobals (aI c.cn)=some (some (.ref C))):
  Fm K r1 (r1++x :: ps) H1 Hk/\HR K Hk (r1++x :: ps) (h1++.obj c ds :: Ev.iX h1.length c.nv (ds.length - c.nv))/\(r1++x :: ps)[h1.length]?=some x:=by
 have hpl:=q.pl;have pre:∀(n:Nat) a,r1[n]?=some a->(r1++x :: ps)[n]?=some a:=λn a e=>by rw[jk (gL e).1];exact e
 have tup:∀a vs,dI K H1 a vs->dI K Hk a vs:=λa vs e=>by
  rcases e with (e|⟨ob,e⟩)|e
  .exact .inl (.inl (q.more _ _ e))
  .exact .inl (.inr ⟨ob,q.more _ _ e⟩)
  .exact .inr e
 have fm:Fm K r1 (r1++x :: ps) H1 Hk:=⟨pre,λa e=>by
   rcases k8 e with z|z
   .exact .inl z
   .rcases qE z with rfl|z
    .exact .inr q.x0
    .exact .inr (q.pf a z).1,λa o e _=>q.more a o e,tup,λa C dx fs e=>⟨fs,q.more _ _ e,λ_ _=>rfl⟩⟩
 have B:∀(j:Nat) o,(h1++O.obj c ds :: Ev.iX h1.length c.nv (ds.length - c.nv))[j]?=some o->h1[j]?=some o\/(j=h1.length/\o=.obj c ds)\/∃t,j=h1.length+(t+1)/\t<ps.length/\o=.cD h1.length (c.nv+t):=λj o e=>by
  by_cases hj:j<h1.length
  .rw[jk hj]at e;exact .inl e
  .rw[aaY (by omega)]at e;cases z:j - h1.length with
   |zero=>rw[z]at e;cases e;exact .inr (.inl ⟨by omega,rfl⟩)
   |succ t=>
    rw[z]at e;obtain⟨a,b⟩:=Ae (by simpa using e);exact .inr (.inr ⟨t,by omega,by omega,a⟩)
 have G:∀(j:Nat) b,j<h1.length->(r1++x :: ps)[j]?=some b->r1[j]?=some b:=λj b hj e=>by rw[jk (by rw[hr.len];exact hj)]at e;exact e
 have M:(r1++x :: ps)[h1.length]?=some x:=by rw[<-hr.len];simp
 have J:∀t:Nat,(r1++x :: ps)[h1.length+(t+1)]?=ps[t]?:=λt=>by rw[<-hr.len,aaY (by omega)];simp
 have F:∀{j:Nat} {o:O},h1[j]?=some o->j<h1.length:=λe=>(gL e).1;have H:∀(j:Nat) o b,zN o=true->h1[j]?=some o->r1[j]?=some b->∃y,H1 b=some y:=λj o b w e z=>by
  cases o with
  |lst ds=>obtain⟨b',N,us,e6,_⟩:=hr.ob j _ e;rw[z]at N;cases N;exact⟨_,e6⟩
  |cD i kk=>obtain⟨b',o,N,e6,_⟩:=hr.ox.pv j i kk e;rw[z]at N;cases N;exact⟨_,e6⟩
  |_=>cases w
 have Rn:∀(t:Nat) b,ps[t]?=some b->H1 b=none:=λt b e=>(q.pf b (aaC e)).1;have Ro:∀t:Nat,t<ps.length->(h1++O.obj c ds :: Ev.iX h1.length c.nv (ds.length - c.nv))[h1.length+(t+1)]?=some (.cD h1.length (c.nv+t)):=λt I=>by
  rw[aaY (by omega),show h1.length+(t+1) - h1.length=t+1 by omega];simp only[List.getElem?_cons_succ];exact Cj (by omega)
 have old:∀{j:Nat} {o:O},h1[j]?=some o->(h1++O.obj c ds :: Ev.iX h1.length c.nv (ds.length - c.nv))[j]?=some o:=λe=>by rw[jk (F e)];exact e
 refine⟨fm,⟨by simp[hr.len,Af];omega,λj o e=>?_,λi j b y z e1 e2 e3 e4=>?_
  ,⟨λj P Q e=>?_,λm i k e=>?_,λm m' b i k o r h p A z5=>?_,λi j b c1 d1 c2 d2 r h p A=>?_⟩⟩,M⟩
 .rcases B j o e with e|⟨rfl,rfl⟩|⟨t,rfl,I,rfl⟩
  .obtain⟨b,e1,z⟩:=hr.ob j o e;exact⟨b,pre _ _ e1,z.mono fm (λ_ _ _ w=>q.more _ _ w) (λ_ _ w=>q.more _ _ w)
    ⟩
  .exact⟨x,M,trivial⟩
  .exact⟨ps[t],by rw[J t];exact VW I,trivial⟩
 .rcases B i _ e3 with e3|⟨_,w⟩|⟨_,_,_,w⟩
  .rcases B j _ e4 with e4|⟨_,w⟩|⟨_,_,_,w⟩
   .exact hr.inj i j b y z (G _ _ (F e3) e1) (G _ _ (F e4) e2) e3 e4
   .cases w
   .cases w
  .cases w
  .cases w
 .rcases B j _ e with e|⟨rfl,w⟩|⟨_,_,_,w⟩
  .obtain⟨b,vz,gs,z⟩:=hr.ox.ob j P Q e;exact⟨b,vz,gs,z.go pre tup (λy w=>q.more _ _ w) (λm k w=>old w) λm b k y w1 w2 w3=>q.more _ _ w3⟩
  .cases w;refine⟨x,dx,fs,⟨M,⟨C,ns,q.ax⟩,hl,ach q.few hn,nd,λy hy=>q.no y (by rw[List.take_length];exact hy),λj g e r h p=>?_,λj g e r h p=>?_,λj g e r h p=>?_⟩⟩
   .obtain⟨v,X,Y⟩:=q.val j g e (gL h).1 r h p;exact⟨v,X,Y.mono fm⟩
   .obtain⟨es',b,us,X,Y,L,Z,a5⟩:=q.lst j g e (gL h).1 r h p;refine⟨es',h1.length+(j - c.nv+1),b,us,X,Y,by rw[J];exact L,?_,Z,a5.mono fm⟩;have:=Ro (j - c.nv) (gL L).1;rw[show c.nv+(j - c.nv)=j by omega]at this;exact this
   .obtain⟨b,X,Y,L,Z⟩:=q.rC j g e (gL h).1 r h p;refine⟨[],h1.length+(j - c.nv+1),b,X,Y,by rw[J];exact L,?_,Z⟩;have:=Ro (j - c.nv) (gL L).1;rw[show c.nv+(j - c.nv)=j by omega]at this;exact this
  .cases w
 .rcases B m _ e with e|⟨_,w⟩|⟨t,rfl,I,w⟩
  .obtain⟨b,o,r,h,p⟩:=hr.ox.pv m i k e;exact⟨b,o,pre _ _ r,q.more _ _ h,p⟩
  .cases w
  .obtain⟨_,_,o,L,Z⟩:=q.pf ps[t] (List.getElem_mem I);exact⟨ps[t],o,by rw[J t];exact VW I,L,Z⟩
 .rcases B m _ p with p|⟨_,w⟩|⟨t,rfl,I,w⟩
  .have y1:=G _ _ (F p) r;obtain⟨y,y2⟩:=H m _ b rfl p y1;rcases B m' _ A with A|⟨_,w⟩|⟨t,rfl,I,w⟩
   .exact hr.ox.jp m m' b i k o y1 (G _ _ (F A) h) p A z5
   .subst w;cases z5
   .rw[J t]at h;rw[Rn t b h]at y2;cases y2
  .cases w
  .rw[J t]at r;rcases B m' _ A with A|⟨_,w⟩|⟨t',rfl,ht',w⟩
   .obtain⟨y,y2⟩:=H m' o b z5 A (G _ _ (F A) h);rw[Rn t b r]at y2;cases y2
   .subst w;cases z5
   .rw[J t']at h;have:=(List.getElem?_inj I q.nd).mp (r.trans h.symm);rw[this]
 .have ins:∀(j:Nat) P Q b,h1[j]?=some (.obj P Q)->r1[j]?=some b->b≠x:=λj P Q b e z w=>by
   subst w;obtain⟨a,_,_,u⟩:=hr.ox.ob j P Q e;obtain⟨_,_,u2⟩:=u.ins;have:=u.at_;rw[z]at this;cases this;rw[q.x0]at u2;cases u2
  rcases B i _ p with p|⟨rfl,w⟩|⟨_,_,_,w⟩
  .rcases B j _ A with A|⟨rfl,w⟩|⟨_,_,_,w⟩
   .exact hr.ox.jo i j b _ _ _ _ (G _ _ (F p) r) (G _ _ (F A) h) p A
   .rw[M]at h;cases h;exact absurd rfl (ins i _ _ _ p (G _ _ (F p) r))
   .cases w
  .rcases B j _ A with A|⟨rfl,w⟩|⟨_,_,_,w⟩
   .rw[M]at r;cases r;exact absurd rfl (ins j _ _ _ A (G _ _ (F A) h))
   .rfl
   .cases w
  .cases w
theorem ni{as:T1}{es:U2}{R:Hp->Prop}(nd:c.nm.Nodup)(Z:aV K H1 r1 es as)(big:∀us:T1,us.length<=1->us.length<=sizeLine):∀(tp:List Ev.TP) (k:Nat) (Hk:Hp) (fs:List (Str×V)) (ps:Y1) (dt:U2),rN c k tp=true->Ev.nV es tp=some dt->ds.drop k=dt->k<=ds.length->k+tp.length=c.nm.length->
  nh K H1 r1 c x C dx ds k Hk fs ps->(∀Hn fn pn,nh K H1 r1 c x C dx ds c.nm.length Hn fn pn->R Hn)->rF x C dx as (ng c k (c.nm.drop k) tp) Hk fs R
 |[],k,Hk,fs,ps,dt,_,_,_,_,hk,q,fin=>by
  have e:k=c.nm.length:=by simpa using hk
  subst e;rw[adb];exact fin Hk fs ps q
 |t :: tp,k,Hk,fs,ps,dt,ht,e,ed,hkd,hk,q,fin=>by
  have J:k<c.nm.length:=by simp only[aaI]at hk;omega
  have r:c.nm[k]?=some c.nm[k]:=VW J;rw[ace J];cases t with
  |a j=>
   simp only[rN,Bg,abc]at ht;simp only[Ev.nV]at e;obtain⟨d,B,e⟩:=kA e;obtain⟨l,h,rfl⟩:=kS e;obtain⟨v,F,G⟩:=Z.get B;have b:ds[k]?=some d:=by rw[<-adm,ed];rfl
   exact⟨v,F,ni nd Z big tp (k+1) _ _ ps l ht.2 h (by rw[<-adp,ed];rfl) (gL b).1 (by simp only[aaI]at hk;omega) (q.value nd ht.1 r b G) fin⟩
  |t j=>
   simp only[rN,Bg,abc]at ht;simp only[Ev.nV]at e;obtain⟨d,B,e⟩:=kA e;obtain⟨l,h,rfl⟩:=kS e;obtain⟨v,F,G⟩:=Z.get B;have b:ds[k]?=some (.tup [d]):=by rw[<-adm,ed];rfl
   refine⟨[v],by simp[IP,F],big _ (by simp),λp y=>?_⟩;exact ni nd Z big tp (k+1) _ _ (ps++[p]) l ht.2 h (by rw[<-adp,ed];rfl) (gL b).1 (by simp only[aaI]at hk;omega) (q.cD nd ht.1.1 r y (.inl ⟨_,rfl⟩) (λ_=>⟨_,_,b,rfl,.cons G .nil⟩) λz=>by omega) fin
  |c d=>
   simp only[rN,Bg]at ht;simp only[Ev.nV]at e;obtain⟨l,h,rfl⟩:=kS e;have b:ds[k]?=some d:=by rw[<-adm,ed];rfl
   have Gb:=(gL b).1;have Cd:ds.drop (k+1)=l:=by rw[<-adp,ed];rfl
   have g:k+1+tp.length=c.nm.length:=by simp only[aaI]at hk;omega
   unfold ng;by_cases A:k<c.nv
   .rw[OL A];cases d with
    |int i=>exact ni nd Z big tp (k+1) _ _ ps l ht.2 h Cd Gb g (q.value nd A r b rfl) fin
    |aN=>exact ni nd Z big tp (k+1) _ _ ps l ht.2 h Cd Gb g (q.value nd A r b rfl) fin
    |tup H=>cases H<;>simp at ht;omega
    |_=>simp at ht
   .rw[aaH A];have Rp:d=.tup []:=by
     cases d with
     |tup H=>cases H with|nil=>rfl|cons _ _=>simp at ht
     |int i=>simp at ht;omega
     |aN=>simp at ht;omega
     |_=>simp at ht
    subst Rp;by_cases I:k<c.nl
    .rw[OL I];refine⟨[],rfl,by simp,λp y=>?_⟩;exact ni nd Z big tp (k+1) _ _ (ps++[p]) l ht.2 h Cd Gb g (q.cD nd (by omega) r y (.inl ⟨_,rfl⟩) (λ_=>⟨_,_,b,rfl,.nil⟩) λz=>by omega) fin
    .rw[aaH I];intro p y;exact ni nd Z big tp (k+1) _ _ (ps++[p]) l ht.2 h Cd Gb g (q.cD nd (by omega) r y (.inr ⟨_,rfl⟩) (λz=>absurd z I) λ_=>⟨b,rfl⟩) fin
end
section
variable{G:Tb}{n:Nat}{sc:Scope}{N:X9}{df:Bool}{m:Θ}{pos:Pos}{c:Ev.Cl}{i:Nat}{o:uc}{x:Str}
def Rq{F:List Ev.Fn}{w n fd I:Nat}{h h':Hh}{d:D}(hd:F[fd]?=some ⟨0,0,.cons (.exp (.cl I .nil)) .nil⟩)(z:F[I]?=some ⟨0,0,.nil⟩)(e:Ev.run F w n fd [] h=.ok d h'):∃k,n=k+2/\h'=h:=by
 cases n with
 |zero=>cases e
 |succ n=>
  simp only[Ev.gg,hd,acJ,aa0]at e;unfold Ev.endOf at e;obtain⟨p,g,a,e⟩:=Ev.ah e;simp only[Ev.exs,Ev.iM,Ev.ev,Ev.bu,Ev.ak]at a;obtain⟨j,q,b,a⟩:=Ev.ah a;obtain⟨r,y,f,b⟩:=Ev.ah b;cases b;cases a;cases e;cases n with
  |zero=>cases f
  |succ n=>
   simp only[Ev.gg,z,acJ,aa0,Ev.exs,Ev.endOf,Ev.ak]at f;cases f;exact⟨n,rfl,rfl⟩
def zm:Es->Nat
 |.nil=>0
 |.cons _ a=>zm a+1
theorem Ck{P:aJ}:∀{es:Es}{fr:Fr}{h h':Hh}{ds:U2},Ev.bu P es fr h=.ok ds h'->ds.length=zm es
 |.nil,_,_,_,_,e=>by simp only[Ev.bu]at e;cases e;rfl
 |.cons a es,_,_,_,_,e=>by
  simp only[Ev.bu]at e;obtain⟨d,f,g,e⟩:=Ev.ah e;obtain⟨ds,j,b,e⟩:=Ev.ah e;cases e;simp[zm,Ck b]
theorem sY{es:U2}:∀{tp:List Ev.TP}{ds:U2},Ev.nV es tp=some ds->ds.length=tp.length
 |[],_,e=>by cases e;rfl
 |.a _ :: r,_,e=>by
  obtain⟨_,_,e⟩:=kA e;obtain⟨l,b,rfl⟩:=kS e;simp[sY b]
 |.t _ :: r,_,e=>by
  obtain⟨_,_,e⟩:=kA e;obtain⟨l,b,rfl⟩:=kS e;simp[sY b]
 |.c _ :: r,_,e=>by
  obtain⟨l,b,rfl⟩:=kS e;simp[sY b]
def Rt{fd pC:Nat}{cn:Str}{tp:List Ev.TP}{es:Es}{e0:Expr}{xs:Kx}{p cpos pos':Pos}(h:gB sc N df m x i=true)(ho:o∈G.oc)(hc:o.c=c)(ht:o.tp=tp)(hok:rN c 0 tp=true)(hd:G.F[fd]?=some ⟨0,0,.cons (.exp (.cl pC .nil)) .nil⟩)(hd0:G.F[pC]?=some ⟨0,0,.nil⟩)(hcn:cn=aI c.cn)(hcl:yF sc cn=true)(hln:c.nm.length<1000)(hlen:zm es+1=o.ini.ps.length)(ha:JA G n sc N df m es (e0 :: xs))(hs:∀env:Env,swapsWith (.Call (.Name cn p) (e0 :: xs) [] cpos) (some (.Name x pos')) pos.line env=pure false:=by intro _;rfl)(hst:∀env:Env,qN e0 xs env:=by intro _;rfl)(hpl:∀env:Env,qW cpos xs env:=by intro _;rfl):
  JS G n sc N df m (.new c i fd tp es) (.Assign [.Name x pos'] (.Call (.Name cn p) (e0 :: xs) [] cpos) pos):=λX g=>by
 subst hc;subst ht;subst hcn;obtain⟨C,oc⟩:=g.oc o ho;obtain⟨j,Z,e2,e3,e4,e5⟩:=gB.of h;obtain⟨l1,l2⟩:=g.loc e3;unfold yF at hcl;simp only[Bg,abd]at hcl;intro d s σ H Q I q;obtain⟨r,fr,hh,fl,aj,h',sr,hr,e,q⟩:=q;simp only[Ev.iM]at e;obtain⟨as,h1,J,e⟩:=Ev.ah e;obtain⟨dd,h2,y2,e⟩:=Ev.ah e;obtain⟨ds,h3,y3,y⟩:=Ev.ah e;obtain⟨L,rfl⟩:=Ev.aH y3;split at y
 case isFalse=>cases y
 rename_i M;cases y;obtain⟨k,hk,rfl⟩:=Rq hd hd0 y2;have P:=g.room;rw[hk]at P;refine qU (i:=j) (by rw[g.nm];exact e5) (by rw[g.nm];exact e2) l1 (ML oc.mkk (oc.ok k) P (g.gl (by simpa using hcl.1)) oc.gl oc.bd .nil zf (ha X g) hcl.2 (hst _) (hpl _)) (hs _) l2 d s σ H Q I ?_;refine⟨r,fr,hh,as,_,sr,hr,J,λvs H1 r1 W A f1 a f ha B hne=>?_⟩;refine⟨a,C,f,vs,by rw[aaJ],by rw[W.length,Ck J];omega,oc.ns,bU,?_⟩;have q0:nh X.K H1 r1 o.c a C f ds 0 (upd (upd H1 f (.own a)) a (.ins C f [])) [] []:=by
  refine⟨λb o e=>by rw[aQ (bH e ha),aQ (bH e B)];exact e,ha,bU,aaB _,λ_ _=>rfl,λj _ _ z=>absurd z (by omega),λj _ _ z=>absurd z (by omega),λj _ _ z=>absurd z (by omega),by simp,λb hb=>by simp at hb,List.nodup_nil⟩
 have:=ni (R:=λH2=>V.aN=V.aN/\Q.nx (σ.set j (some (.ref a))) H2) oc.nd W (λus z=>aaN z (by rw[abQ];decide)) o.tp 0 _ [] [] ds hok L (abV ..) (abu _) (by rw[Nat.zero_add,<-sY L,M]) q0 λHn fn pn qn=>by
  obtain⟨Y,g2,g3⟩:=qn.done A oc.nd hln M oc.ns;exact⟨rfl,q _ _ _ (((sr.mono f1).mono Y).set e4 Z (show RV X.K Hn _ _ (.ref a)from ⟨a,rfl,g3⟩)) g2 (f1.trans Y)⟩
 rw[abV]at this;exact this
end
def Vt{K:Φ}{x y:Str}{C:Addr}(h:x=y)(e:W.nsIn K mainGlobals y=some (some (.ref C))):W.nsIn K mainGlobals x=some (some (.ref C)):=h▸e
def D5{K:Φ}{x y:Str}{C:Addr}(h:x=y)(e:W.findIn K (.ref C) y=some none):iy K C x:=h▸e
end Sm
namespace Sm
open PySem PySem.Spec PyProof.Rows L2 PySem.W
def XI(h:Heap)(x C:Addr):Prop:=∃ox:Obj,h.get? x=some ox/\ox.cls=.ref C/\∃vs,ox.data=.fields vs
structure XC(K:Φ)(C:Addr):Prop where
 ob:∃nm q N bs bm hdct sn sub ab col dd k0 k1 k2 k3 k5 newId,K.lookup C=some (excClassObj nm q C N bs bm hdct sn sub ab col dd k0 k1 k2 k3 k5 newId)/\∀h:Heap,K.In h->OwnTailQ h [.type "ValueError",.type "Exception",.type "BaseException",.type "object"] bm
 ga:findIn K (.ref C) "__getattribute__" = some (some (.builtin "BaseException.__getattribute__"))
 gh:findIn K (.ref C) "__getattr__" = some none
 cl:findIn K (.ref C) "__class__" = some (some (.builtin "object.__class__"))
 so:subIn K (.ref C) (.type "object")=some true
 me:kitCls K (.ref C) (.ref C)=some true
section
variable{prog:Program}{w:World}{A:Around}{E:Ξ}{s:Shared}{K:Φ}{x C:Addr}
def sZ{M:Model}{h:Heap}(i:XI h x C):Looks M h (typeOf (.ref x)) (.ref C):=λA Q E s k q=>by
 obtain⟨c,a,b,_⟩:=i;exact wpAny_typeOf_ref (k _ _ a) (by rw[b];exact q)
def Ru{R:Result->Shared->Prop}{tp:Value}(dX:K.In s.heap)(i:XI s.heap x C)(so:subIn K (.ref C) (.type "object")=some true)(h:R (.ok (.ret (.ref C))) s):
  codeAny (model prog w) A (.call (.builtin "getset_descriptor.__get__") ⟨[.builtin "object.__class__",.ref x,tp],[]⟩) R s:=by
 refine codeAny_call_builtin (by decide) KF.entry_gs (KF.slot_gs.check _ _ _ _ _ _ _ _ KF.type_class (KF.args_gs _ _ _) ?_);unfold Builtin.«getset_descriptor.__get__» Builtin.Getset_descriptor.descrGet;rw[dga_obj];show wpAny _ _ (do Builtin.Getset_descriptor.descrCheckInstance (.builtin "object.__class__") (.ref x);again _) _ _ _;refine gV ?_;unfold Builtin.Getset_descriptor.descrCheckInstance;have a:Builtin.Getset_descriptor.descrNameAndClass (.builtin "object.__class__")=pure (("__class__":Str),Value.type "object"):=by kernel_rfl
 rw[a];show wpAny _ _ (do let b <-isInstance (.ref x) (.type "object");_) _ _ _;refine gV ?_;unfold isInstance;refine gV (sZ i _ _ _ _ (λ_ _ e=>e) ?_);refine looks_subIn dX so _ _ _ _ (λ_ _ e=>e) ?_;refine ZM ?_;refine ZM ⟨by kernel_rfl,?_⟩;refine codeAny_builtin KF.entry_class ?_;show wpAny _ _ (do let t <-shownTypeOf (.ref x);ret t) _ _ _;refine gV ?_;unfold shownTypeOf;refine gV (sZ i _ _ _ _ (λ_ _ e=>e) ?_);refine ZM ?_;exact ZM h
def Nz{M:Model}{h:Heap}(dX:K.In h)(cl:findIn K (.ref C) "__class__" = some (some (.builtin "object.__class__"))):Looks M h (Builtin.ObjectAttr.find (.ref x) (.ref C) "__class__") (.bind (.builtin "getset_descriptor.__get__") (.builtin "object.__class__")):=λA Q E s k q=>by
 unfold Builtin.ObjectAttr.find;refine gV (ac4 dX cl _ _ _ _ k ?_);refine gV ?_;show wpAny _ _ (specialOf _ _) _ _ _;unfold specialOf;rw[KF.type_class];show wpAny _ _ (typeLookup (.type "getset_descriptor") _) _ _ _;refine ac4 dX (K:=K) (t:=.type "getset_descriptor") (r:=some (.builtin "getset_descriptor.__get__")) (by kernel_rfl) _ _ _ _ k ?_;refine gV ?_;show wpAny _ _ (do let b <-Builtin.ObjectAttr.takesStores _;_) _ _ _;refine gV ?_;unfold Builtin.ObjectAttr.takesStores;refine gV ?_;unfold specialOf;rw[KF.type_class];show wpAny _ _ (typeLookup (.type "getset_descriptor") _) _ _ _;refine ac4 dX (K:=K) (t:=.type "getset_descriptor") (r:=some (.builtin "getset_descriptor.__set__")) (by kernel_rfl) _ _ _ _ k ?_;refine ZM ?_;refine ZM ?_;exact gV (acY (ZM q))
def Jk{Q:Option Value->Shared->Prop}(c:XC K C)(dX:K.In s.heap)(i:XI s.heap x C)(h:Q (some (.ref C)) { s with toks:=s.toks+1 }):wpAny (model prog w) A (getAttr? (.ref x) "__class__") Q E s:=by
 obtain⟨⟨B,q,N,bs,G,b,sn,sub,H,d,I,J,L,M,P,X,a,f,g⟩,j,k,p,y,Y⟩:=c;obtain⟨Z,i1,i2,_⟩:=id i;unfold getAttr?;refine gV (wpAny_mkText ?_);unfold getAttrBy?;refine gV (ab1 ?_);unfold getAttrBy;refine ab0 (gV (sZ i _ _ _ _ (λ_ _ e=>e) ?_));refine gV (ac4 dX j _ _ _ _ (λ_ _ e=>e) ?_);show wpAny _ _ (getAttrByItsOwn _ _ _ _ _ _) _ _ _;unfold getAttrByItsOwn;refine gV (looks_hook dX (mc:=.ref C) (r:=none) k _ _ _ _ (λ_ _ e=>e) ?_);refine gV (ab1 (ab0 ?_));show wpAny _ _ (boundAndCalled _ _ _) _ _ _;unfold boundAndCalled;rw[PySem.F.attrBase_ValueError.ga.bind];show wpAny _ _ (call (.builtin "BaseException.__getattribute__") [.ref x,.str "__class__" s.toks]) _ _ _;refine aco (codeAny_call_builtin (by decide) PySem.F.entry_bexc_ga (wpAny_check_ga_own PySem.F.attrBase_ValueError (dX _ _ f) (g _ dX) i1 i2 ?_));unfold Builtin.«object.__getattribute__»;have z:slotArgs "__getattribute__" 1 ⟨[.ref x,.str "__class__" s.toks],[]⟩=pure (Value.ref x,[Value.str "__class__" s.toks]):=rfl;rw[z];show wpAny _ _ (do let tp <-typeOf (.ref x);_) _ _ _;refine gV (sZ i _ _ _ _ (λ_ _ e=>e) ?_);refine gV (Nz dX p _ _ _ _ (λ_ _ e=>e) ?_);show wpAny _ _ (do let r <-holding _ (call _ _);ret r) _ _ _;refine gV (ab0 (aco (Ru dX i y ?_)));refine ZM ?_;refine ZM ?_;exact ZM h
def Rx(c:XC K C):KitX K (.ref x) (.ref C) (λh=>XI h x C):=by
 refine⟨λM h a i=>sZ i,λM h a _=>(kit_cls a c.me).2.1,λh f g j n r a e=>?_,λ{prog w A E Q s} a i hq=>Jk c a i hq⟩;by_cases z:C=f
 .subst z;obtain⟨y,q,N,bs,B,d,sn,sub,F,k,g,G,H,I,J,L,b,p,P⟩:=c.ob;have:=a _ _ p;rw[e]at this;have z:=aaL Obj.cls (abi this);injection z with z
  exact absurd z (by decide)
 .simpa using z
def Ry(c:XC K C){D:Value}{b:Bool}(dX:K.In s.heap)(i:XI s.heap x C)(e:kitOne K (.ref C) D=some b){Q:Ξ}(h:∀tk,Q (.bool b) { s with toks:=tk }):
  wpAny (model prog w) A (call (.builtin "isinstance") [.ref x,D]) Q E s:=kia_one (Rx c) dX i e (λz=>nomatch z) h
end
def Lk(l:List Env)(H':Hp)(h g B:Heap):Prop:=∀b o,g.get? b=some o->((H' b).isSome=true\/(h.get? b).isSome=true)->b∉frs l->B.get? b=some o
structure jY(P:Program)(w:World)(l:List Env)(H:Hp)(s:Shared)(a C:Addr)(H':Hp)(s':Shared):Prop where
 os:s'.os=s.os
 bare:AllBare s'.gens
 un:Un (frs l) [] H H' s.heap s'.heap
 hok:gA P w H' s'.heap
 fl:∃B a0,Heap.FlyingW B l a (.ref C) a0 s'.heap/\Lk l H' s.heap s'.heap B
def vC(P:Program)(w:World):o5:=λb H s E e c=>∃a C H',e=.ref a/\jY P w b H s a C H' c/\E (.ref C) none H'
def Gw(x:gF P w H h a o):∃ob,h.get? a=some ob:=by
 cases o with
 |lst xs=>obtain⟨_,_,_,_,e⟩:=x;exact⟨_,e⟩
 |tup xs=>obtain⟨_,_,_,ob,e,_⟩:=x;exact⟨_,e⟩
 |dK b=>obtain⟨_,_,_,_,o,_,_,e,_⟩:=x;exact⟨_,e⟩
 |dT b=>obtain⟨_,_,_,_,o,_,_,e,_⟩:=x;exact⟨_,e⟩
 |set S n=>obtain⟨o,_,_,_,e,_⟩:=x;exact⟨_,e⟩
 |ins C c fs=>obtain⟨_,_,_,e,_⟩:=x;exact⟨_,e⟩
 |own y=>obtain⟨_,e⟩:=x;exact⟨_,e⟩
 |xd fs=>obtain⟨_,⟨_,_,_,e,_⟩,_⟩:=x;exact⟨_,e⟩
 |kI d g=>obtain⟨_,_,_,e⟩:=x;exact⟨_,e⟩
 |bY ob u=>obtain⟨e,_⟩:=x;exact⟨_,e⟩
 |xX ps=>exact⟨_,(show h.get? a=some _ from x)⟩
 |met f y=>exact⟨_,(show h.get? a=some _ from x)⟩
 |ext φ=>obtain⟨_,e,_⟩:=x;exact e
def uK(u:Un (frs l) [] H H' h g)(hok:gA P w H' g)(I:Lk l H' h g B)(st:Heap.StaysIn B g2)(Z:∀b∈frs l,∀o,g.get? b=some o->∃sl,g2.get? b=some { o with slots:=sl })(hb:∀b∈frs l,H' b=none):
  Un (frs l) [] H H' h g2/\gA P w H' g2/\Lk l H' h g2 B:=by
 have c:=λb o e z n=>st b o (I b o e z n);refine⟨⟨λb o e n f p=>c b o (u.keep b o e n f p) (.inr (by rw[e];rfl)) f,λb o e n f p=>?_,u.free,λb o e p=>?_,u.tups,u.mY,u.oM⟩,λa o e=>?_,λb o e z n=>?_⟩
 .obtain⟨sl,d⟩:=u.slot b o e n f p;obtain⟨r,j⟩:=Z b f _ d;exact⟨r,j⟩
 .obtain⟨k,d⟩:=u.there b o e p;by_cases f:b∈frs l
  .obtain⟨sl,j⟩:=Z b f _ d;exact⟨_,j⟩
  .exact⟨k,c b k d (.inr (by rw[e];rfl)) f⟩
 .refine(hok a o e).stay (λb v z q=>?_) (λ_ q=>q) λ_ _ q=>q;have tr:(H' b).isSome=true:=by
   rcases z with z|z
   .rw[z,e];rfl
   .rw[z];rfl
  exact c b v q (.inl tr) λf=>by rw[hb b f]at tr;exists tr
 .have ex:∃k,g.get? b=some k:=by
   rcases z with z|z
   .obtain⟨x,d⟩:=gN z;exact Gw (hok b x d)
   .obtain⟨x,d⟩:=gN z;exact u.there b x d (by simp)
  obtain⟨k,d⟩:=ex;have j:=c b k d z n;rw[e]at j;cases j;exact I b o d z n
section
variable{X:Cx}{pins:Ψ}{σ:L2.St}{H H':Hp}{s s':Shared}{a C:Addr}
def uL(I:Inv X pins σ H s)(u:Un (frs X.stack) [] H H' s.heap s'.heap):∀b∈frs X.stack,H' b=none:=λb c=>by
 obtain⟨_,o,d,_⟩:=I.stack.mem c;exact u.free b o d (I.wG b c) (by simp)
def yH(Z:X.ex=[])(hs:X.stack=X.env :: X.outer)(I:Inv X pins σ H s)(os:s'.os=s.os)(bare:AllBare s'.gens)(u:Un (frs X.stack) [] H H' s.heap s'.heap)(hok:gA X.prog X.w H' s'.heap)(qL:Lk X.stack H' s.heap s'.heap B)(ff:∀b∈frs X.stack,∃o,s'.heap.get? b=some o/\∀vs,o.data≠.fields vs)(fl:Heap.FlyingW B X.outer a (.ref C) a0 g2)(up:Heap.UpToSlots s'.heap g2):jY X.prog X.w X.outer X.H₀ X.s₀ a C H' { s' with heap:=g2 }:=by
 obtain⟨j,h,Ag⟩:=uK u hok qL fl.1 (λb d o e=>by
  obtain⟨k,c,f⟩:=ff b d;rw[e]at c;cases c;exact up b o e f) (uL I u)
 have I2:=I.zb (s':={ s' with heap:=g2 }) os j h bare (λb z=>absurd z (by simp));refine⟨os.trans I.os,bare,by have:=I2.base;rw[Z]at this;exact this,h,B,a0,fl,λb o e z n=>?_⟩;have g:b≠X.env.locals:=λy=>by
  rcases z with z|z
  .rw[y,I2.free]at z;exists z
  .obtain⟨x,c⟩:=gN z;rw[y]at c;exact absurd (aaF c) (Nat.not_lt.mpr I.ok.above)
 refine Ag b o e (z.imp id λz=>?_) λd=>?_
 .obtain⟨x,c⟩:=gN z;obtain⟨p,f⟩:=I.base.there b x c (by rw[Z];simp);rw[f];rfl
 .rcases qE (I.u7 b d)with y|y
  .exact g y
  .exact n y
theorem vD:∀{l:List Env}{h base B:Heap},Heap.FunFrames h base l->(∀b∈frs l,B.get? b=none)->Heap.FunFrames h B l
 |[],_,_,_,_,_=>trivial
 |env :: r,h,base,B,hl,n=>by
  obtain⟨d,⟨L,o,c,k,e,f⟩,g⟩:=hl;exact⟨d,⟨L,o,c,n L (by unfold frs;rw[aaS,c];exact aa4),e,f⟩,vD g λb j=>n b (by unfold frs;rw[aaS,c];exact aaM _ j)⟩
def Jl(Z:X.ex=[])(z:X.stack=X.env :: X.outer)(hf:X.env.frame=some X.env.locals)(I:Inv X pins σ H s)(f:jY X.prog X.w X.stack H s a C H' s')(q:∀s'',jY X.prog X.w X.outer X.H₀ X.s₀ a C H' s''->Q () s''):
  wpAny (model X.prog X.w) X.A (leaving X.env (.ref a)) Q E s':=by
 obtain⟨e,c,un,d,B,r,fl,g⟩:=f;have h:∀b∈frs X.stack,∃o,s'.heap.get? b=some o/\∀vs,o.data≠.fields vs:=λb j=>(fl.2.2.1.mem j).2;rw[z]at fl;exact wpAny_leaves_onW (by rw[I.ok.frames,z]) hf fl λx k p=>q _ (yH Z z I e c un d g h k p)
def D6(Z:X.ex=[])(z:X.stack=X.env :: X.outer)(hf:X.env.frame=some X.env.locals)(I:Inv X pins σ H s)(m:Heap.MadeExcOf s.heap h1 a (.ref C) args)(q:∀s'',jY X.prog X.w X.outer X.H₀ X.s₀ a C H s''->Q () s''):
  wpAny (model X.prog X.w) X.A (leaving X.env (.ref a)) Q E { s with heap:=h1 }:=by
 have cut:∀b∈frs X.stack,(hideAll s.heap (frs X.stack)).get? b=none:=λb c=>hideAll_none _ c;have Rz:=vD I.stack cut;have d:∀b∈frs X.stack,∃o,s.heap.get? b=some o/\∀vs,o.data≠.fields vs:=λb c=>(Rz.mem c).2;refine wpAny_leaves_madeW (base:=hideAll s.heap (frs X.stack)) (by rw[I.ok.frames,z]) hf (λb o e=>of_hideAll _ e) (by rw[z]at Rz ⊢;exact Rz) m λj t f _ _ g=>q _ ?_;have:=yH Z z I rfl I.bare Un.refl I.hok (λb o e _ n=>hideAll_get _ e n) d f λb o e h=>g b o (m.keeps b o e) h;exact this
def jY.inv(f:jY X.prog X.w X.stack H s a C H' s')(I:Inv X pins σ H s):Inv X pins σ H' s':=I.zb f.os f.un f.hok f.bare (λb z=>absurd z (by simp))
def jY.xi(f:jY P w l H s a C H' s'):XI s'.heap a C:=by
 obtain⟨B,h,fl,_⟩:=f.fl;obtain⟨b,c,T,j,k,d,e,g,_⟩:=fl.2.2.2;exact⟨b,d,e.1,c,g⟩
def jY.new(f:jY P w l H s a C H' s'):a∉frs l/\H' a=none:=by
 obtain⟨d,b,p,e,g⟩:=f.xi;obtain⟨B,q,fl,h⟩:=f.fl;have n1:a∉frs l:=λj=>by
  obtain⟨_,o,c,k⟩:=fl.2.2.1.mem j;rw[b]at c;exists c;exact k e g
 refine⟨n1,?_⟩;cases z:H' a with
 |none=>rfl
 |some x=>
  have:=h a d b (.inl (by rw[z];rfl)) n1;rw[fl.2.1]at this;exists this
def jY.on(f:jY P w l H s a C H' s')(I:∀b∈frs l,H' b=none)(q:∀s'',jY P w l H s a C H' s''->Q () s''):wpAny M A (setFlight (.ref a) none) Q E s':=by
 obtain⟨h,c,un,d,B,j,fl,k⟩:=f;refine lands_againW fl λz Cg p=>q _ ?_;obtain⟨r,x,Ag⟩:=uK un d k Cg.1 (λb I o e=>by
  obtain⟨_,F,g,y⟩:=fl.2.2.1.mem I;rw[e]at g;cases g;exact p b o e y) I
 exact⟨h,c,r,x,B,j,Cg,Ag⟩
def D7(I:Inv X pins σ H s)(f:jY X.prog X.w X.stack H s a C H' s')(hs:X.stack=X.env :: X.outer)(hf:X.env.frame=some X.env.locals){Q:Unit->Shared->Prop}{E:Ξ}(q:∀s'',jY X.prog X.w X.stack H s a C H' s''->Q () s''):wpAny (model X.prog X.w) X.A (noteFrame (.ref a) X.env) (λ_ s₂=>wpAny (model X.prog X.w) X.A (setFlight (.ref a) none) Q E s₂) E s':=by
 obtain⟨y,c,un,d,B,z,fl,F⟩:=f;have G:∀b∈frs X.stack,∃o,s'.heap.get? b=some o/\∀vs,o.data≠.fields vs:=λb g=>(fl.2.2.1.mem g).2;have J:=uL I un;rw[hs]at fl;refine wpAny_looks_onW (by rw[I.ok.frames,hs]) hf fl λP h j=>wpAny_landsW h λW Cg k=>q _ ?_;obtain⟨K,L,Ag⟩:=uK un d F Cg.1 (λb g o e=>by
  obtain⟨Y,r,x⟩:=G b g;rw[e]at r;cases r;obtain⟨Z,M⟩:=j b o e x;obtain⟨p,N⟩:=k b _ M x;exact⟨p,N⟩) J
 exact⟨y,c,K,L,B,z,by rw[hs];exact Cg,Ag⟩
end
section
variable{X:Cx}
def RA(h:PE X e t)(w:∀s H Q,t' s H Q->t s H Q):PE X e t':=λpins s σ H Q I q=>h pins s σ H Q I (w _ _ _ q)
def NB(hp:(a,oe)∈X.pn)(ho:oe.cls=.ref C)(hd:∃vs,oe.data=.fields vs)(c:XC X.K C)(hD:PE X ed (tC D))(rD:∀u,RelV D u->u=Du)(k:kitOne X.K (.ref C) Du=some b)(hN:X.N[0]?=some xe)(hv:xY X.env.scope xe)(hg:Gl X "isinstance")(hm:X.mg "isinstance" = none)(z:∀env:Env,starEach [.Name xe p1,ed] env=(false,eval (.Name xe p1) env) :: starEach [ed] env)(Z:∀env:Env,starEach [ed] env=(false,eval ed env) :: starEach [] env)(Gx:(xe==("__debug__":Str))=false)(RC:(xe==("__classdict__":Str))=false):
  PE X (.Call (.Name "isinstance" p) [.Name xe p1,ed] [] pos) (λσ H Q=>σ[0]?=some (some (.ref a))/\Q (.bl b) H):=by
 have e:gG X (.builtin "isinstance") (λxs H Q=>xs=[.ref a,D]/\Q (.bl b) H):=by
  intro d s σ H xs us Q I rv q;obtain⟨rfl,q⟩:=q;cases rv with
  |cons f rv=>
   cases rv with
   |cons g rv=>
    cases rv;cases f;obtain rfl:=rD _ g;obtain⟨h,_⟩:=I.pin (a,oe) (List.mem_append.mpr (.inl hp));exact Ry c I.iu ⟨oe,h,ho,hd⟩ k λtk=>⟨.bl b,H,I.tok _,rfl,q⟩
 refine RA (uC e hg hm (by decide) (fk (oZ hN hv Gx RC) (fk hD iz (Z _)) (z _)) (by decide) (by decide) (z _) (by show _=_;rw[Z];rfl)) λs H Q q=>?_;exact⟨_,q.1,rfl,q.2⟩
theorem xu:∀{bs:List Bool}{z:Y2},Vals (bs.map V.bl) z->z=bs.map Value.bool
 |[],_,h=>by cases h;rfl
 |b :: bs,_,h=>by
  cases h with
  |cons r h=>cases r;rw[xu h];rfl
def Ll:Value->Bool
 |.bool b=>b
 |_=>false
def Ah(bs:List Bool):∀y∈(bs.map Value.bool).toArray,MeetsSeq.EqGives y (.bool true) (Ll y):=λy a=>by
 rw[List.mem_toArray,List.mem_map]at a;obtain⟨b,_,rfl⟩:=a;intro prog w A E s Q q;refine SeqAt.EqAt.bool_bool b true prog w E Q ?_;cases b<;>exact q
section
variable{o:Expr}{to:TE}{j:Nat}{ap pos p1:Pos}
def NC(ho:PE X o to)(Z:q3 o "count" X.env:=by rfl)(hline:(ap.endLine==pos.line)=true:=by rfl):PE X (.Call (.Attribute o "count" ap) [.Constant (.bool true) j p1] [] pos) (λσ H Q=>to σ H λx H1=>∃(l:Addr) (bs:List Bool),x=.ref l/\H1 l=some (.lst (bs.map V.bl))/\Q (.int (bs.countP id)) H1):=by
 intro b s σ H Q I h;refine acz Z rfl hline rfl (bx (ho b s σ H _ I h) λv s1 ⟨x,H1,I1,c,l,bs,ex,d,q⟩=>?_);subst ex;cases c;obtain⟨z,f,n,r,k,e⟩:=I1.pV d;obtain rfl:=xu r;refine⟨"list","list.count",aa8,PySem.F.slot_list_count,PySem.F.type_list_count,⟨_,e,rfl⟩,λa g=>by exists g;exact⟨_,e,rfl⟩,?_⟩;show wpAny _ _ (callWith pos (.builtin "list.count") [.ref l] [(false,eval (.Constant (.bool true) j p1) X.env)] []) _ _ _;refine PySem.P.count_list (Constant_bool ⟨_,n,Ll,e,Ah bs,?_⟩);refine⟨.int (bs.countP id),H1,I1.tok _,⟨s1.toks,?_⟩,q⟩;have:List.countP Ll (bs.map Value.bool)=bs.countP id:=by rw[List.countP_map];rfl
 rw[List.toList_toArray,this]
def ND(ho:PE X o to)(Z:q3 o "index" X.env:=by rfl)(hline:(ap.endLine==pos.line)=true:=by rfl):PE X (.Call (.Attribute o "index" ap) [.Constant (.bool true) j p1] [] pos) (λσ H Q=>to σ H λx H1=>∃(l:Addr) (bs:List Bool) (k:Nat),x=.ref l/\H1 l=some (.lst (bs.map V.bl))/\(bs[k]?=some true/\(∀m,m<k->bs[m]?=some false)/\k<1000)/\Q (.int k) H1):=by
 intro b s σ H Q I h;refine acz Z rfl hline rfl (bx (ho b s σ H _ I h) λv s1 ⟨x,H1,I1,g,l,bs,k,ex,p,⟨c,d,y⟩,q⟩=>?_);subst ex;cases g;obtain⟨z,A,n,r,G,e⟩:=I1.pV p;obtain rfl:=xu r;refine⟨"list","list.index",aa8,PySem.F.slot_list_index,PySem.F.type_list_index,⟨_,e,rfl⟩,λa B=>by exists B;exact⟨_,e,rfl⟩,?_⟩;show wpAny _ _ (callWith pos (.builtin "list.index") [.ref l] [(false,eval (.Constant (.bool true) j p1) X.env)] []) _ _ _;have f:=(gL c).1;refine PySem.P.index_list (Constant_bool ⟨_,n,Ll,k,by simpa using f,e,Ah bs,by lia,?_,λm J C=>?_,?_⟩)
 .simp only[adB,List.getElem_map];exact(gL c).2
 .simp only[adB,List.getElem_map];exact(gL (d m C)).2
 .exact⟨.int k,H1,I1.tok _,⟨_,rfl⟩,q⟩
end
structure Lm(K:Φ)(C:Addr)(c:Nat)(D0 D1 D2 D3:Addr):Prop where
 xc:XC K C
 k0:kitOne K (.ref C) (.ref D0)=some (decide (c=0))
 k1:kitOne K (.ref C) (.ref D1)=some (decide (c=1))
 k2:kitOne K (.ref C) (.ref D2)=some (decide (c=2))
 k3:kitOne K (.ref C) (.ref D3)=some (decide (c=3))
 kv:kitOne K (.ref C) (.type "ValueError")=some true
 lt:c<4
def NF{st:List Stmt}(h:fT X st t)(w:∀D σ H,t' D σ H->t D σ H):fT X st t':=λpins s σ H D I q=>h pins s σ H D I (w _ _ _ q)
end
section
variable{X:Cx}
set_option maxHeartbeats 1000000 in
def Gy{a:Addr}{oe:Obj}{C D0 D1 D2 D3:Addr}{c:Nat}{x0 x1 x2:Str}{tb:List Stmt}{p0 p1 p2 p3 p4 p5 p6 p7 p8 p9 Ln Lo Lq Lr Ls Lu Lv Lx Ly Lz Gz GA LA LC GB LD LF q1 q2 Z q4 q5 q6 q7 q8:Pos}(hp:(a,oe)∈X.pn)(ho:oe.cls=.ref C)(hd:∃vs,oe.data=.fields vs)(k:Lm X.K C c D0 D1 D2 D3)(hc3:c<3)(g0:Gl X x0)(g1:Gl X x1)(g2:Gl X x2)(gi:Gl X "isinstance")(gv:Gl X "ValueError")(m0:X.mg x0=some (.ref D0))(m1:X.mg x1=some (.ref D1))(m2:X.mg x2=some (.ref D2))(mi:X.mg "isinstance" = none)(mv:X.mg "ValueError" = none)(Cm:(x0==("__debug__":Str))=false)(Gx:(x1==("__debug__":Str))=false)(RC:(x2==("__debug__":Str))=false)(hN:X.N=(["_law_e","_law_flags"]:X9))(h0:X.env.scope.names.lookup ("_law_e":Str)=some .local)(h1:X.env.scope.names.lookup ("_law_flags":Str)=some .local)(hl1:(p7.endLine==p8.line)=true)(hl2:(Gz.endLine==GA.line)=true):
  fT X [.Assign [.Name "_law_flags" p0] (.List [.Call (.Name "isinstance" p1) [.Name "_law_e" p2,.Name x0 p3] [] p4,.Call (.Name "isinstance" q1) [.Name "_law_e" q2,.Name x1 Z] [] q4,.Call (.Name "isinstance" q5) [.Name "_law_e" q6,.Name x2 q7] [] q8] p5) p6,
   .If (.BoolOp .Or [.Compare (.Call (.Attribute (.Name "_law_flags" p9) "count" p7) [.Constant (.bool true) 0 Ln] [] p8) [.NotEq] [.Constant (.int 1) 0 Lo] Lq,.UnaryOp .Not (.Call (.Name "isinstance" Lr) [.Name "_law_e" Ls,.Name "ValueError" Lu] [] Lv) Lx] Ly) tb [] Lz,
   .Return (some (.Tuple [.Constant (.str "refused") 0 LA,.Call (.Attribute (.Name "_law_flags" LC) "index" Gz) [.Constant (.bool true) 0 GB] [] GA] 0 LD)) LF] (λD σ H=>σ=[some (.ref a),none]/\∀p H',(∀b o,H b=some o->H' b=some o)->H' p=some (.tup [.str "refused",.int c])->D.rt (.ref p) H'):=by
 have h:xY X.env.scope ("_law_e":Str):=.inl h0;have j:xY X.env.scope ("_law_flags":Str):=.inl h1;have n0:X.N[0]?=some ("_law_e":Str):=by rw[hN];rfl
 have n1:X.N[1]?=some ("_law_flags":Str):=by rw[hN];rfl
 have nd:X.N.Nodup:=by rw[hN];decide
 have LG:∀{ed:Expr} {D:V} {Du:Value} {b:Bool} {q0 q1 q2:Pos},PE X ed (tC D)->(∀u,RelV D u->u=Du)->kitOne X.K (.ref C) Du=some b->(∀env:Env,starEach [.Name "_law_e" q1,ed] env=(false,eval (.Name "_law_e" q1) env) :: starEach [ed] env)->(∀env:Env,starEach [ed] env=(false,eval ed env) :: starEach [] env)->
   PE X (.Call (.Name "isinstance" q0) [.Name "_law_e" q1,ed] [] q2) (λσ H Q=>σ[0]?=some (some (.ref a))/\Q (.bl b) H):=λh1 y z A B=>NB hp ho hd k.xc h1 y z n0 h gi mi A B (by decide) (by decide)
 have i0:=λ{q0 q1 q2 Z:Pos}=>LG (q0:=q0) (q1:=q1) (q2:=q2) (wH (pos:=Z) g0 m0 (v:=.ref D0) rfl Cm) (λu r=>r) k.k0 (λ_=>rfl) (λ_=>rfl);have i1:=λ{q0 q1 q2 Z:Pos}=>LG (q0:=q0) (q1:=q1) (q2:=q2) (wH (pos:=Z) g1 m1 (v:=.ref D1) rfl Gx) (λu r=>r) k.k1 (λ_=>rfl) (λ_=>rfl);have i2:=λ{q0 q1 q2 Z:Pos}=>LG (q0:=q0) (q1:=q1) (q2:=q2) (wH (pos:=Z) g2 m2 (v:=.ref D2) rfl RC) (λu r=>r) k.k2 (λ_=>rfl) (λ_=>rfl);have F:=λ{q0 q1 q2 Z:Pos}=>LG (q0:=q0) (q1:=q1) (q2:=q2) (My (pos:=Z) gv mv (by decide) (v:=.ty "ValueError") rfl) (λu r=>r) k.kv (λ_=>rfl) (λ_=>rfl);have WB:=λ{q:Pos}=>oZ (X:=X) (pos:=q) n1 j;refine NF (jR (qU (i:=1) (pos':=p0) nd n1 (.inl h1) (vf (fk i0 (fk i1 (fk i2 iz)))) rfl (.inr h1))
  (jR (Dk (PW.pt (KG (BL UT (NC WB rfl hl1) zC (lI _)) (ET (EU (Ph F))))) EX wI) (BH (zD (Fb (fk ES (fk (ND WB rfl hl2) iz))))))) λD σ H q=>?_
 obtain⟨rfl,q⟩:=q;refine⟨rfl,rfl,rfl,by show 3<=sizeLine;decide,λl G=>?_⟩;have d:∀{H1:Hp} {q:Addr} {x:HO},(∀b o,H b=some o->H1 b=some o)->H1 q=none->∀b o,H b=some o->upd H1 q x b=some o:=λf I b o e=>by rw[aQ (bH (f b o e) I)];exact f b o e
 have f:=d (x:=.lst [V.bl (decide (c=0)),.bl (decide (c=1)),.bl (decide (c=2))]) (λ_ _ e=>e) G;have g:c=0\/c=1\/c=2:=by lia
 have J:[decide (c=0),decide (c=1),decide (c=2)].countP id=1:=by rcases g with rfl|rfl|rfl<;>decide
 have L:[decide (c=0),decide (c=1),decide (c=2)][c]?=some true/\(∀m,m<c->[decide (c=0),decide (c=1),decide (c=2)][m]?=some false)/\c<1000:=by rcases g with rfl|rfl|rfl<;>decide
 refine⟨_,rfl,l,[decide (c=0),decide (c=1),decide (c=2)],rfl,bU,?_⟩;rw[J];refine⟨rfl,_,rfl,?_⟩;dsimp only;rw[aaH (by decide)];refine⟨rfl,_,rfl,?_⟩;dsimp only;rw[aaH (by decide)];refine⟨_,rfl,l,[decide (c=0),decide (c=1),decide (c=2)],c,rfl,bU,L,?_⟩;exact⟨by show 2<=sizeLine;decide,λt M=>q t _ (d f M) bU⟩
end
section
variable{P:Program}{w:World}{K:Φ}{mg:W1}{base:Heap}
def LH(P:Program)(w:World)(K:Φ)(mg:W1)(base:Heap)(N:X9)(qual:Str)(scope:Scope)(f:Addr)(z:Value)(A:Around)(outer:List Env)(s:Shared)(H:Hp)(a:Addr)(oe:Obj):Cx:=
 { l6 kJ P w K mg base N qual scope f z A outer s H E0 with calm:=false,pn:=[(a,oe)],xe:=λ_ _=>False }
def Jm{x qual:Str}{st:Stmt}{f:Addr}{fd:FuncData}{N ps:X9}{A:Around}{outer:List Env}{s:Shared}{H:Hp}{args:Args}{us:Y2}{vs:T1}{Q:VK}{a:Addr}{oe:Obj}(F:o6 K x qual st f fd)(S:aW N ps (av st))(dp:A.depth<recursionLimit)(e0:pU P w K mg base A outer s H)(hb:BindsTo s fd args (ps.zip us))(r:Vals vs us)(hl:vs.length=ps.length)(p1:s.heap.get? a=some oe)(p2:H a=none)(p3:a∉frs outer)(p4:∀v,oe.data≠.cell v)(hbody:∀(cdv:Value) (X:Cx),X=LH P w K mg base N qual (av st) f cdv A outer s H a oe->∃t,fT X (cV st) t/\t { nx:=λ_ H'=>Q .aN H',rt:=Q } (start N vs) H):
  codeAny (model P w) A (.call (.ref f) args) (CR kJ outer P w H s Q E0) s:=by
 obtain⟨oc,od,kV,C,pm,an,cdv,ct,G,rfl,L,j⟩:=F.ex;have KX:K.In s.heap:=e0.mod.dX.keeps λb o e=>(e0.bs b o e).1;have k:s.heap.NoLimit:=e0.mod.nolimit.keeps λb o e=>(e0.bs b o e).1;have c:∀y∈ps.zip us,(av st).names.lookup y.1=some .local\/((av st).names.lookup y.1=some .cell/\((cellsFrom (s.heap.objs.size+1) (av st).names []).lookup y.1).isSome=true):=λ⟨n,v⟩ M=>by
  rcases S.par n (acH M).1 with q|q
  .exact .inl q
  .exact .inr ⟨q,acA _ _ _ (.inl q)⟩
 refine codeAny_call_function dp (KX _ _ L) rfl S.co S.gen rfl (adJ KX j) (hb _ _ _ _ ?_);refine acU S.kind c λY Z s1 y=>?_;subst Z;refine⟨k.keeps y.toInCall.keep,codeAny_func ?_⟩;obtain⟨t,ht,hq⟩:=hbody cdv _ rfl;have I0:Inv (l6 kJ P w K mg base N qual (av st) f cdv { A with handled:=none } outer s H E0) [] (start N vs) H s1:=yf S rfl ⟨e0.frames,e0.mod,e0.bs,e0.qD,e0.jE,e0.qQ,e0.hok,e0.bare⟩ hl r y;have ok:=I0.ok;have I:Inv (LH P w K mg base N qual (av st) f cdv A outer s H a oe) [] (start N vs) H s1:=
  ⟨⟨ok.mod,ok.kind,ok.glob,ok.blt,ok.above,ok.inj,ok.has,ok.zB,(λh=>nomatch h),Around.frames_deeper e0.frames,ok.stk,ok.EO,ok.bs,ok.qD,ok.ux,ok.uy,ok.jE,ok.qQ⟩,I0.os,I0.bare,I0.base,I0.loc,I0.cell,I0.free,I0.jO,
   λp hp=>by
    obtain rfl:p=(a,oe):=by simpa[LH]using hp
    exact⟨y.toInCall.keep _ _ p1,p2,λz=>by
     have:=aaF p1;rw[show a=s.heap.objs.size from z]at this;exact absurd this (aa6 _),p3,p4⟩,I0.hok,I0.len⟩
 refine aaZ (ht [] s1 (start N vs) H _ I hq) (λfl B d=>?_) λe B d=>d.elim;have fin:∀{g:L2.St} {H':Hp} {v:V} {u:Value},Inv (LH P w K mg base N qual (av st) f cdv A outer s H a oe) [] g H' B->RelV v u->Q v H'->CE outer P w H s Q u B:=
  λ{g H' v u} J rv q=>⟨v,H',J.os,J.bare,J.base,J.hok,rv,q⟩
 cases fl with
 |ret u=>
  obtain⟨v,g,H',J,rv,q⟩:=d;exact fin J rv q
 |next=>
  obtain⟨g,H',J,q⟩:=d;exact fin (v:=V.aN) (u:=Value.none) J rfl q
 |brk=>
  obtain⟨_,_,_,q⟩:=d;exact False.elim q
 |cont=>
  obtain⟨_,_,_,q⟩:=d;exact False.elim q
end
section
variable{X:Cx}{pins:Ψ}{σ:L2.St}{H H':Hp}{s s':Shared}{a C:Addr}
def GC(I:Inv X pins σ H s)(hN:X.N.Nodup)(hi:X.N[i]?=some x)(hk:X.env.scope.names.lookup x=some .local)(hv:σ[i]?=some (some v))(h:∀s',Inv X pins (σ.set i none) H s'->Q () s'):wpAny M A (unbindName X.env x) Q E s:=by
 obtain⟨m,Y,Z⟩:=id I.loc;have F:(X.env.scope.kind==.class || (X.env.scope.kind==.module&&X.env.locals != X.env.globals))=false:=by rw[I.ok.kind];rfl
 have qR:=I.qR;obtain⟨u,r,q⟩:=Z i x v hi hv (.inl hk);have hm:m x=some u:=by
  rcases q with ⟨_,e⟩|⟨k,_⟩
  .exact e
  .rcases k with k|k
   .rw[show X.env.kindOf x=X.env.scope.names.lookup x from rfl,hk]at k;cases k
   .rw[show X.env.kindOf x=X.env.scope.names.lookup x from rfl,hk]at k;cases k
 refine wpAny_unbindName_local hk Y hm F λh' u' L g=>?_;obtain⟨oL,_,_,V9,_⟩:=id Y;have f:=λb ob e=>by
  refine(I.hok b ob e).stay (λc w' J q=>(g.2 c ?_).trans q) (λ_ q=>q) λ_ _ q=>q;rintro rfl;rcases J with rfl|J
  .rw[I.free]at e;exists e
  .rw[I.free]at J;exists J
 refine h _ ⟨I.ok,I.os,I.bare,⟨λb o e n P G=>?_,λb o e n P G=>?_,I.base.free,λb o e G=>?_,I.base.tups,I.base.mY,I.base.oM⟩,⟨_,L,λj y v' B K e3=>?_⟩,λy c e=>?_,I.free,I.jO,λp hp=>?_,f,by simpa using I.len⟩
 .exact(g.2 b (aaV (WU (aaF e) I.ok.above))).trans (I.base.keep b o e n P G)
 .obtain⟨sl,B⟩:=I.base.slot b o e n P G;exact⟨sl,(g.2 b (aaV (WU (aaF e) I.ok.above))).trans B⟩
 .obtain⟨o',B⟩:=I.base.there b o e G;exact⟨o',(g.2 b (aaV (WU (aaF e) I.ok.above))).trans B⟩
 .have Di:i<σ.length:=by rw[I.len];exact(gL hi).1
  by_cases W:j=i
  .subst W;rw[WV Di]at K;cases K
  .rw[T7 (abJ W)]at K;obtain⟨u',r',q⟩:=Z j y v' B K e3;refine⟨u',r',?_⟩;rcases q with ⟨k,e⟩|⟨k,c,e,z⟩
   .refine .inl ⟨k,?_⟩;have:y≠x:=λe=>W (uz hN B (e▸hi));simp[this,e]
   .exact .inr ⟨k,c,e,z.sameBut g (qR y c e)⟩
 .obtain⟨w',z⟩:=I.cell y c e;exact⟨w',z.sameBut g (qR y c e)⟩
 .obtain⟨e,n,ne,nf,d⟩:=I.pin p hp;exact⟨(g.2 p.1 ne).trans e,n,ne,nf,d⟩
structure Jo(K:Φ)(mg:W1)(rf:Addr)(rd:FuncData)(Ai:Stmt)(Wc:Addr)(KC:Addr->Ω):Prop where
 fn:o6 K "_law_refused" "_law_refused" Ai rf rd
 sc:aW ["_law_e","_law_flags"] ["_law_e"] (av Ai)
 bd:Binds K rd ["_law_e"] []
 mr:mg "_law_refused" = some (.ref rf)
 mw:mg "WayError" = some (.ref Wc)
 body:∀(Y:Cx) (a:Addr) (oe:Obj) (C:Addr) (c:Nat),Y.N=(["_law_e","_law_flags"]:X9)->Y.env.scope=av Ai->Y.K=K->Y.mg=mg->(a,oe)∈Y.pn->oe.cls=.ref C->(∃vs,oe.data=.fields vs)->KC C c->
  fT Y (cV Ai) (λD σ H=>σ=[some (.ref a),none]/\∀p H',(∀b o,H b=some o->H' b=some o)->H' p=some (.tup [.str "refused",.int c])->D.rt (.ref p) H')
def RD{rf:Addr}{rd:FuncData}{Ai:Stmt}{Wc:Addr}{KC:Addr->Ω}{c i:Nat}{D:Ends}{p1 p2 p3 p4 p5 p6:Pos}{E:Ξ}(R:Jo X.K X.mg rf rd Ai Wc KC)(k:KC C c)(kw:exmOne X.K (.ref C) (.ref Wc)=some true)(hs:X.stack=X.env :: X.outer)(hf:X.env.frame=some X.env.locals)(dp:X.A.depth<recursionLimit)(hN:X.N.Nodup)(hi:X.N[i]?=some ("_law_e":Str))(hk:X.env.scope.names.lookup ("_law_e":Str)=some .local)(g1:Gl X "_law_refused")(g2:Gl X "WayError")(I1:Inv X pins σ H s)(f:jY X.prog X.w X.stack H s a C H' s')(q:∀p nj,(∀b o,H' b=some o->nj b=some o)->nj p=some (.tup [.str "refused",.int c])->D.rt (.ref p) nj):
  wpAny (model X.prog X.w) X.A (noteFrame (.ref a) X.env) (λ_ s₂=>wpAny (model X.prog X.w) X.A (setFlight (.ref a) none) (λ_ s₃=>wpAny (model X.prog X.w) X.A (handleBy (.ref a) X.env [.ExceptHandler (some (.Name "WayError" p1)) (some "_law_e") [.Return (some (.Call (.Name "_law_refused" p2) [.Name "_law_e" p3] [] p4)) p5] p6]) (SP X pins D) E s₃) E s₂) E s':=by
 refine D7 I1 f hs hf λs2 f2=>?_;have I2:=f2.inv I1;have B:=f2.un;refine wpAny_handleBy_cons (codeAny_handlers_test ?_) (λz=>nomatch z);refine abF I2.ok.kind g2 (acr (by rw[I2.ok.glob];exact I2.mod.glob.keeps I2.bk) R.mw ?_) (by decide);refine exm_one I2.iu (sZ f2.xi) kw _ _ _ _ (λ_ _ e=>e) ?_;show codeAny _ _ (Code.handlers (.ref a) [.ExceptHandler none (some "_law_e") _ p6] X.env) _ s2;refine codeAny_handlers_suite_as ?_;refine f2.on (uL I1 B) λs3 f3=>?_;have I3:=f3.inv I1;obtain⟨nf,na⟩:=f3.new;obtain⟨Z,F,x2,vs,y⟩:=f3.xi;refine qS I3 hN hi (.inl hk) (v:=.ref a) rfl (λs4 I4 ⟨b,G,hb⟩=>?_) (.inr hk);have I:a≠b:=λz=>by
  subst z;rcases hb with z|z
  .obtain⟨m,⟨o,es,ep,d,g,_⟩,_⟩:=I3.loc;rw[<-z,F]at d;exists d;rw[y]at g;exists g
  .obtain⟨v,o,d,g⟩:=I3.cell _ _ z;rw[F]at d;exists d;rw[y]at g;exists g
 have x4:s4.heap.get? a=some Z:=(G.2 a I).trans F;have hσ:(σ.set i (some (V.ref a)))[i]?=some (some (.ref a)):=WV (by rw[I3.len];exact(gL hi).1);refine abX (acW (abz ?_));refine abF I4.ok.kind g1 (acr (by rw[I4.ok.glob];exact I4.mod.glob.keeps I4.bk) R.mr ?_) (by decide);refine callWith_K (h₀:=X.base) I4.ok.mod.dX R.fn.kp ?_ rfl rfl;show wpAny _ _ (spliced ((false,eval (.Name "_law_e" p3) X.env) :: [])) _ _ _;refine aci ?_;obtain⟨m,hn,hl⟩:=I4.loc;obtain⟨u,r,l⟩:=hl i _ _ hi hσ (.inl hk);cases r;have hm:m "_law_e" = some (.ref a):=by
  rcases l with ⟨_,e⟩|⟨z,_⟩
  .exact e
  .rcases z with z|z<;>rw[show X.env.kindOf "_law_e" = X.env.scope.names.lookup ("_law_e":Str)from rfl,hk]at z<;>cases z
 refine ady (wpAny_loadName_local I4.ok.kind hk hn hm ?_) (by decide);refine acy ⟨I4.iu,?_⟩;have e0:pU X.prog X.w X.K X.mg X.base (X.A.mark (some (.ref a))) X.stack s4 H':=⟨I4.lZ.frames,I4.lZ.mod,I4.lZ.bs,I4.lZ.qD,I4.lZ.jE,I4.lZ.qQ,I4.lZ.hok,I4.lZ.bare⟩
 refine aco (abT (Jm (args:=⟨[.ref a],[]⟩) (us:=[.ref a]) (vs:=[.ref a]) (Q:=λv nj=>∃p,v=.ref p/\(∀b o,H' b=some o->nj b=some o)/\nj p=some (.tup [.str "refused",.int c])) R.fn R.sc dp e0 (R.bd s4 [.ref a] I4.iu rfl) (.cons rfl .nil) rfl x4 na nf (λv=>by rw[y];exact λz=>nomatch z) λcdv Y j=>⟨_,R.body Y a Z C c (by rw[j];rfl) (by rw[j];rfl) (by rw[j];rfl) (by rw[j];rfl) (by rw[j];exact List.mem_singleton.mpr rfl) x2 ⟨vs,y⟩ k,rfl,λp nj J L=>⟨p,rfl,J,L⟩⟩) λM s5 x=>?_);cases M with
 |error e=>exact x.elim
 |ok fl=>
  cases fl with
  |next=>exact x.elim
  |brk=>exact x.elim
  |cont=>exact x.elim
  |ret u5=>
   obtain⟨v,H5,P,Vu,W,Zq,r5,p,rfl,J,L⟩:=x;have I5:Inv X pins _ H5 s5:=I4.zb (ch:=[]) P W Zq Vu (λb z=>absurd z (by simp));show wpAny _ _ (do bindName X.env "_law_e" .none;unbindBehindTheSuite X.env "_law_e" p6) _ _ s5;refine gV (wpAny_bindName (uA I5 hN hi (.inl hk) (v:=.aN) rfl (λs6 I6=>?_) (.inr hk)));refine wpAny_onRaise (GC I6 hN hi hk (v:=.aN) (WV (by simpa using (gL hσ).1)) λs7 I7=>?_);exact⟨.ref p,_,H5,I7,r5,q p H5 J L⟩
end
end Sm
namespace Sm
open PySem PySem.Spec PyProof.Rows L2
open Ev (D O Hh Fr R aJ E Es Eo It T S Ss Fl Src bN bA TY BI ME)
abbrev LI:Y2:=[.type "ValueError",.type "Exception",.type "BaseException",.type "object"]
def GD(K:Φ)(C:Addr):Prop:=∃nm q N bs bm hdct sn sub ab col dd k0 k1 k2 k3 k5,K.lookup C=some (excClassObj nm q C N bs bm hdct sn sub ab col dd k0 k1 k2 k3 k5 "ValueError.__new__")/\bm.contains (.type "BaseException")=true/\∀h:Heap,K.In h->∃mN,h.Ns N mN/\mN "__init__" = none/\OwnTail h LI bm
def Cn(K:Φ)(cl:Nat->Addr)(F:List Ev.Fn)(w n f:Nat):Sp:=λa H Q E=>∃r h ds c h',aV K H r ds a/\HR K H r h/\Ev.dM F w n f ds h=some (c,h')/\∀H' r',HR K H' r' h'->Fm K r r' H H'->E (.ref (cl c)) none H'
def WC{G:Tb}{f:Nat}{i:FI}(e:G.fi[f]?=some i):
 (G.fi++G.mi)[f]?=some i:=KY e
inductive tX(K:Φ)(cl:Nat->Addr)(m:Θ)(E:XK)(f:Fr->Hh->Ev.XR)(s:L2.St)(H:Hp):Prop
 |mk (r:Y1) (fr:Fr) (h:Hh) (c:Nat) (h':Hh) (sr:SR K m H r fr s) (hr:HR K H r h) (e:f fr h=some (c,h')) (q:∀H' r',HR K H' r' h'->Fm K r r' H H'->E (.ref (cl c)) none H'):tX K cl m E f s H
structure GX(G:Tb)(cl:Nat->Addr)(eN:List (Str×Nat))(rz su:Θ)(n:Nat)(sc:Scope)(N:X9)(df:Bool)(E:XK)(X:Cx):Prop where
 g:Good G n sc N df X.iV
 own:PassesOwn (model X.prog X.w) X.A X.env X.xe
 ps:Passes (vC X.prog X.w) X E
 md:∀(pins:Ψ) (σ:L2.St) (H:Hp) (s:Shared) (h1:Heap) (e C:Addr) (args:Y2),Inv X pins σ H s->Heap.MadeExcOf s.heap h1 e (.ref C) args->E (.ref C) none H->X.xe (.ref e) { s with heap:=h1 }
 fn:∀(f:Nat) i,
  (G.fi++G.mi)[f]?=some i
  ->su.contains f=true->eT X.prog X.w X.K X.mg X.base (vC X.prog X.w) n i.addr i.fd i.ps (Cn X.K cl G.F G.w n f)
 nz:∀f,rz.contains f=false->∀ds h,Ev.dM G.F G.w n f ds h=none
 cs:∀x c,(x,c)∈eN->X.mg x=some (.ref (cl c))/\GD X.K (cl c)
theorem PA.iV(h:PA X.iV es t):PA X es t:=λpos pins s σ H Q I hw=>
 aaZ (h pos pins s σ H Q (I.kL _) hw) (λ_ _ ⟨a,H',I',r,q⟩=>⟨a,H',I'.iW,r,q⟩) λ_ _ z=>False.elim z
theorem PS.iV{st:Stmt}(h:PS X.iV st t):PS X st t:=λpins s σ H D I hw=>
 aaZ (h pins s σ H D (I.kL _) hw) (λ_ _ q=>q.iW) λ_ _ z=>False.elim z
section
variable(G:Tb)(cl:Nat->Addr)(eN:List (Str×Nat))(rz su:Θ)(n:Nat)(sc:Scope)(N:X9)(df:Bool)(m:Θ)
def RE(e:E)(x:Expr):Prop:=∀X Ex,GX G cl eN rz su n sc N df Ex X->PE X x (λs H _=>tX X.K cl m Ex (Ev.xe (Ev.run G.F G.w n) (Ev.dM G.F G.w n) e) s H)
def WD(es:Es)(xs:Kx):Prop:=∀X Ex,GX G cl eN rz su n sc N df Ex X->PA X xs (λs H _=>tX X.K cl m Ex (Ev.xa (Ev.run G.F G.w n) (Ev.dM G.F G.w n) es) s H)
def Co(st:S)(x:Stmt):Prop:=∀X Ex,GX G cl eN rz su n sc N df Ex X->PS X x (λ_ s H=>tX X.K cl m Ex (Ev.xs (Ev.run G.F G.w n) (Ev.dM G.F G.w n) G.w st) s H)
def nu(ss:Ss)(xs:List Stmt):Prop:=∀X Ex,GX G cl eN rz su n sc N df Ex X->fT X xs (λ_ s H=>tX X.K cl m Ex (Ev.xss (Ev.run G.F G.w n) (Ev.dM G.F G.w n) G.w ss) s H)
end
section
variable{G:Tb}{cl:Nat->Addr}{eN:List (Str×Nat)}{rz su:Θ}{n:Nat}{sc:Scope}{N:X9}{df:Bool}{m:Θ}{a b:E}{xa:Expr}{pos:Pos}
def RG(h:Ev.BV rz es=true):WD G cl eN rz su n sc N df m es xs:=λX Ex g pos pins s σ H Q I q=>by
 obtain⟨r,d,f,c,j,sr,k,e,q⟩:=q;rw[Ev.DI g.nz _ h]at e;exists e
def aac(h:Ev.vj rz s=true):Co G cl eN rz su n sc N df m s x:=λX Ex g pins s σ H Q I q=>by
 obtain⟨r,d,f,c,j,sr,k,e,q⟩:=q;rw[Ev.P4 g.nz _ h]at e;exists e
def fS(h:Ev.rj rz s=true):nu G cl eN rz su n sc N df m s xs:=λX Ex g pins s σ H Q I q=>by
 obtain⟨r,d,f,c,j,sr,k,e,q⟩:=q;rw[Ev.vn g.nz _ h]at e;exists e
def Vv{f:Nat}{i:FI}{es:Es}{x:Str}{e0:Expr}{xs:Kx}{p:Pos}(h:yF sc x=true)(hu:su.contains f=true)(hf:G.fi[f]?=some i)(hx:i.name=x)(hs:JA G n sc N df m es (e0 :: xs))(ks:WD G cl eN rz su n sc N df m es (e0 :: xs))(hst:∀env:Env,qN e0 xs env:=by intro _;rfl)(hpl:∀env:Env,qW pos xs env:=by intro _;rfl):
  RE G cl eN rz su n sc N df m (.cl f es) (.Call (.Name x p) (e0 :: xs) [] pos):=λX Ex g pins s σ H Q I q=>by
 subst hx;unfold yF at h;simp only[Bg,abd]at h;obtain⟨j,k,y,_⟩:=g.g.fn f i hf;have z:Gl X i.name:=g.g.gl (by simpa using h.1);obtain⟨r,A,B,c,C,sr,F,e,q⟩:=q;simp only[Ev.xe]at e;split at e
 .rename_i ds J K;refine wK (g.fn f i (WC hf) hu) g.g.room z j k y .nil g.ps (PA.iV (hs X.iV g.g)) h.2 (hst _) (hpl _) pins s σ H Q I ⟨r,A,B,ds,J,sr,F,K,λZ H1 L M d f1=>?_⟩;exact⟨L,J,ds,c,C,by rw[aaJ];exact M,d,e,λH' P W Y=>q H' P W (f1.trans Y)⟩
 .exact wK (g.fn f i (WC hf) hu) g.g.room z j k y .nil g.ps (ks X Ex g) h.2 (hst _) (hpl _) pins s σ H Q I ⟨r,A,B,c,C,sr,F,e,q⟩
def ZS(z:RE G cl eN rz su n sc N df m a xa):Co G cl eN rz su n sc N df m (.ret a) (.Return (some xa) pos):=λX Ex g pins s σ H Q I q=>by
 obtain⟨r,d,f,c,h,sr,j,e,q⟩:=q;exact zD (z X Ex g) pins s σ H Q I ⟨r,d,f,c,h,sr,j,e,q⟩
def NG{i:Nat}{x:Str}{Z:Pos}(h:gB sc N df m x i=true)(ka:RE G cl eN rz su n sc N df m a xa)(hs:∀env:Env,swapsWith xa (some (.Name x Z)) pos.line env=pure false:=by intro _;rfl):Co G cl eN rz su n sc N df m (.set i a) (.Assign [.Name x Z] xa pos):=λX Ex g pins s σ H Q I q=>by
 obtain⟨r,d,f,c,k,sr,p,e,q⟩:=q;simp only[Ev.xs]at e;obtain⟨j,F,y,z,J,A⟩:=gB.of h;obtain⟨B,C⟩:=g.g.loc z;exact qU (X:=X) (i:=j) (by rw[show X.N=N from g.g.nm];exact A) (by rw[show X.N=N from g.g.nm];exact y) B (ka X Ex g) (hs _) C pins s σ H Q I ⟨r,d,f,c,k,sr,p,e,q⟩
def tu(hc:JT G n sc N df m a xa)(kc:Ev.ua rz a=true)(h1:nu G cl eN rz su n sc N df m ta ya)(h2:nu G cl eN rz su n sc N df m tb yb):Co G cl eN rz su n sc N df m (.iff a ta tb) (.If xa ya yb pos):=λX Ex g pins s σ H Q I q=>by
 obtain⟨r,f,A,c,y,sr,B,e,q⟩:=q;simp only[Ev.xs]at e;split at e
 .rename_i k h C;refine Dk (PT.iV (hc X.iV g.g)) (h1 X Ex g) (h2 X Ex g) pins s σ H Q I ⟨r,f,A,k,h,sr,B,C,λH1 z d f1=>?_⟩;cases k with
  |true=>exact⟨z,f,h,c,y,sr.mono f1,d,by simpa using e,λH' j p x=>q H' j p (f1.trans x)⟩
  |false=>exact⟨z,f,h,c,y,sr.mono f1,d,by simpa using e,λH' j p x=>q H' j p (f1.trans x)⟩
 .rw[Ev.uD g.nz _ kc]at e;exists e
def gq{st:S}(h1:JS G n sc N df m st x)(k1:Co G cl eN rz su n sc N df m st x)(ks:nu G cl eN rz su n sc N df m ss xs):nu G cl eN rz su n sc N df m (.cons st ss) (x :: xs):=λX Ex g pins s σ H Q I q=>by
 obtain⟨r,f,h,c,j,sr,k,e,q⟩:=q;simp only[Ev.xss]at e;split at e
 .rename_i p y z;exact jR (PS.iV (h1 X.iV g.g)) (ks X Ex g) pins s σ H Q I ⟨r,f,h,.nx,p,y,sr,k,z,λs1 H1 A B d f1=>⟨A,p,y,c,j,B,d,e,λH' C F J=>q H' C F (f1.trans J)⟩⟩
 ·exists e
 .exact jR (k1 X Ex g) (ks X Ex g) pins s σ H Q I ⟨r,f,h,c,j,sr,k,e,q⟩
def tD{c:Nat}{x t:Str}{np cp Z pos:Pos}{j:Nat}(hx:(x,c)∈eN:=by decide)(h:yF sc x=true:=by decide)(h9:c<9:=by decide):Co G cl eN rz su n sc N df m (.fP c) (.Raise (some (.Call (.Name x np) [.Constant (.str t) j Z] [] cp)) none pos):=λX Ex g pins s σ H Q I q=>by
 obtain⟨r,J,K,L,M,sr,d,e,q⟩:=q;simp only[Ev.xs]at e;simp only[Ev.xs,OL h9]at e;cases e;unfold yF at h;simp only[Bg,abd]at h;have f:Gl X x:=g.g.gl (by simpa using h.1);obtain⟨k,nm,p,Nn,bs,P,hdct,sn,sub,ab,col,dd,k0,k1,k2,k3,k5,y,z,A⟩:=g.cs x _ hx;have B:=q H r d .refl;obtain⟨W,n1,n2,n3⟩:=A s.heap I.iu;refine wpAny_Raise_call_subT (nm:=nm) (q:=p) (N:=Nn) (bs:=bs) (hdct:=hdct) (sn:=sn) (sub:=sub) (ab:=ab) (col:=col) (dd:=dd) (k0:=k0) (k1:=k1) (k2:=k2) (k3:=k3) (k5:=k5) PySem.F.excBase_ValueError z g.g.room.hd rfl n2 (sO I f k ⟨rfl,?_⟩ h.2);refine Calls.evalArgs_plain ?_;show wpAny _ _ (spliced ((false,eval (.Constant (.str t) j Z) X.env) :: [])) _ _ _;refine aci (Calls.Constant_str (acy ⟨rfl,by show 1<=sizeLine;decide,I.iu _ _ y,n1,n3,λC e mk=>?_⟩));exact g.md pins σ H { s with toks:=s.toks+1 } C e _ _ (I.tok _) mk B
section
variable{P:Program}{w:World}{K:Φ}{mg:W1}{base:Heap}
def rO(P:Program)(w:World)(K:Φ)(mg:W1)(base:Heap)(G:Tb)(cl:Nat->Addr)(su:Θ)(n:Nat):Prop:=∀(f:Nat) i,
 (G.fi++G.mi)[f]?=some i
 ->su.contains f=true->eT P w K mg base (vC P w) n i.addr i.fd i.ps (Cn K cl G.F G.w n f)
def RH(z:∀ds h,Ev.dM G.F G.w n k ds h=none):eT P w K mg base (vC P w) n f fd ps (Cn K cl G.F G.w n k):=by
 have j:∀d H Q E,¬ Cn K cl G.F G.w n k d H Q E:=λd H Q E h=>by
  obtain⟨r,h,ds,c,p,_,_,e,_⟩:=h;rw[z]at e;exists e
 exact⟨λd H Q E h=>absurd h (j d H Q E),λA g s H args q d Q E _ _ _ _ h=>absurd h (j d H Q E)⟩
def rP{st:Stmt}{i:FI}(T:Top P w K mg G)(A0:sQ P w K mg base G n)(A1:rO P w K mg base G cl su n)(hz:Ev.rq rz 0 G.F=true)(hc:∀x c,(x,c)∈eN->mg x=some (.ref (cl c))/\GD K (cl c))(F:o6 K x qual st i.addr i.fd)(S:aW N i.ps (av st))(hf:G.F[f]?=some fn)(hp:i.ps.length=fn.np)(hb:nu G cl eN rz su n (av st) N true (List.range N.length) fn.body (cV st)):eT P w K mg base (vC P w) (n+1) i.addr i.fd i.ps (Cn K cl G.F G.w (n+1) f):=by
 have j:∀p H Q E,Cn K cl G.F G.w (n+1) f p H Q E->p.length=i.ps.length:=λp H Q E h=>by
  obtain⟨r,h,ds,c,Y,B,_,e,_⟩:=h;simp only[Ev.kj,hf]at e;split at e
  .rename_i z;rw[B.length,z,hp]
  ·exists e
 obtain⟨oc,od,kV,doc,pm,an,y,ct,osl,e0,Z,J⟩:=F.ex;rw[e0]at Z ⊢;refine KO Z J S j λA d s H p Q Ex hr kg=>?_;have hl:=j p H Q Ex kg;have hN:p.length<=N.length:=by
  have:=aaL List.length S.pre;rw[abk]at this;lia
 have g:Good G n (av st) N true (l6 (vC P w) P w K mg base N qual (av st) i.addr y A d s H Ex).iV:=
  ⟨rfl,rfl,rfl,λ_ _=>rfl,hr,rfl,λf i k=>⟨(T.fn f i k).1,(T.fn f i k).2.1,(T.fn f i k).2.2,A0 f i
   (KY
   k
   )
   ⟩,T.bl,T.cs,T.dk
   ,λf i k=>⟨(T.mt f i k).1,(T.mt f i k).2,A0 _ i (FO k)⟩,T.oc _
   ⟩
 have gx:GX G cl eN rz su n (av st) N true Ex (l6 (vC P w) P w K mg base N qual (av st) i.addr y A d s H Ex):=
  ⟨g,PassesOwn.leaving,λpins σ H1 s1 e s' I ⟨a,C,H',h1,fl,q⟩=>by
    subst h1;exact Jl rfl rfl rfl I fl λL M=>⟨a,C,H',rfl,M,q⟩,
   λpins σ H1 s1 h1 e C args I mk q=>D6 rfl rfl rfl I mk λL M=>⟨e,C,H1,rfl,M,q⟩,A1,Ev.wV hz G.w n,hc
   ⟩
 refine⟨_,hb _ Ex gx,?_⟩;obtain⟨r,h,ds,c,Y,B,X,e,q⟩:=kg;simp only[Ev.kj,hf]at e;split at e
 .exact⟨r,Ev.cX fn ds,h,c,Y,uF B hN,X,e,q⟩
 ·exists e
def Cp(k:∀b o,H b=some o->H' b=some o):Fm K r r H H'/\(HR K H r h->HR K H' r h):=by
 have f:Fm K r r H H':=⟨λ_ _ e=>e,λ_ e=>.inl e,λa o e _=>k a o e,λa g e=>by
  rcases e with (e|⟨ob,e⟩)|e
  .exact .inl (.inl (k _ _ e))
  .exact .inl (.inr ⟨ob,k _ _ e⟩)
  .exact .inr e
  ,λa C j fs e=>⟨fs,k _ _ e,λ_ _=>rfl⟩
  ⟩
 refine⟨f,λc=>⟨c.len,λn o e=>?_,c.inj
  ,c.ox.more f k
  ⟩⟩
 obtain⟨a,d,q⟩:=c.ob n o e;exact⟨a,d,q.mono f (λ_ _ _ z=>k _ _ z) (λ_ _ z=>k _ _ z)
  ⟩
def GF{w n f:Nat}(I:F.length<=1000)(e:Ev.run F w n (f+Ev.xo) ds h=.ok d h'):∃c:Nat,d=.int c/\Ev.dM F w n f ds h=some (c,h'):=by
 cases n with
 |zero=>exists e
 |succ n=>
  rw[Ev.gg,aaO (by show F.length<=f+1000;lia)]at e;simp only[Ev.qH]at e;rw[OL (Nat.le_add_left _ _),acR]at e;split at e
  .rename_i c g z;exists e;exact⟨c,rfl,z⟩
  ·exists e
theorem xx(st:∀n,sQ P w K mg base G n->rO P w K mg base G cl su n->sQ P w K mg base G (n+1)/\rO P w K mg base G cl su (n+1)):∀n,sQ P w K mg base G n/\rO P w K mg base G cl su n
 |0=>⟨λf i _=>M9,λf i _ _=>RH λ_ _=>rfl⟩
 |n+1=>st n (xx st n).1 (xx st n).2
end
end
open PySem.W
def Aj(K:Φ)(N:Addr):Bool:=nsOkIn K N&&quietNames.all λn=>nsIn K N n==some none
def WE(K:Φ)(C Wc D0 D1 D2 D3:Addr)(c:Nat):Bool:=
 findIn K (.ref C) "__getattribute__" ==some (some (.builtin "BaseException.__getattribute__"))&&findIn K (.ref C) "__getattr__" ==some none&&findIn K (.ref C) "__class__" ==some (some (.builtin "object.__class__"))
 &&subIn K (.ref C) (.type "object")==some true&&kitCls K (.ref C) (.ref C)==some true
 &&kitOne K (.ref C) (.ref D0)==some (decide (c=0))&&kitOne K (.ref C) (.ref D1)==some (decide (c=1))&&kitOne K (.ref C) (.ref D2)==some (decide (c=2))&&kitOne K (.ref C) (.ref D3)==some (decide (c=3))
 &&kitOne K (.ref C) (.type "ValueError")==some true&&exmOne K (.ref C) (.ref Wc)==some true&&decide (c<4)
structure D8(K:Φ)(x:Str)(C Wc D0 D1 D2 D3:Addr)(c:Nat):Prop where
 ns:nsIn K mainGlobals x=some (some (.ref C))
 rs:GD K C
 cs:Lm K C c D0 D1 D2 D3
 em:exmOne K (.ref C) (.ref Wc)=some true
def Aj.ns{K:Φ}{N:Addr}{h:Heap}(q:Aj K N=true)(dX:K.In h):∃m,h.Ns N m/\∀n∈quietNames,m n=none:=by
 unfold Aj at q;rw[Bg]at q;have b:=Heap.Ns.of_isNs (isNs_of_in dX q.1);exact⟨_,b,λn a=>nsMap_none_of_in dX q.1 (beq_iff_eq.mp (List.all_eq_true.mp q.2 n a))⟩
def xy{K:Φ}{x:Str}{C Wc D0 D1 D2 D3 N:Addr}{c:Nat}{nm q:Str}{bs:Y2}{hdct:Bool}{sn:X9}{sub:Y2}{ab:Bool}{col:Option Bool}{dd z:Option Addr}{k0 k1 k2 k3 k5:Option Value}{c0:Value}{I:ClassData}{sl:Array (Option Value)}(a:nsIn K mainGlobals x=some (some (.ref C)))(l:K.lookup C=some (excClassObj nm q C N bs (.ref Wc :: LI) hdct sn sub ab col dd k0 k1 k2 k3 k5 "ValueError.__new__"))(Z:K.lookup Wc=some ⟨c0,z,.cls I,sl⟩)(n:Aj K N=true)(nw:Aj K I.ns=true)(f:WE K C Wc D0 D1 D2 D3 c=true):D8 K x C Wc D0 D1 D2 D3 c:=by
 unfold WE at f;simp only[Bg,adz,abc]at f;obtain⟨⟨⟨⟨⟨⟨⟨⟨⟨⟨⟨f1,f2⟩,f3⟩,f4⟩,f5⟩,f6⟩,f7⟩,f8⟩,f9⟩,B5⟩,LJ⟩,LK⟩:=f;have g:∀h:Heap,K.In h->OwnTailQ h LI (.ref Wc :: LI):=λh b=>by
  obtain⟨m,d,e⟩:=Aj.ns nw b;exact .own (b _ _ Z) d e .base
 refine⟨a,⟨_,_,_,_,_,_,_,_,_,_,_,_,_,_,_,_,l,rfl,λh b=>?_⟩,⟨⟨⟨_,_,_,_,_,_,_,_,_,_,_,_,_,_,_,_,_,l,g⟩,f1,f2,f3,f4,f5⟩,f6,f7,f8,f9,B5,LK⟩,LJ⟩;obtain⟨m,d,e⟩:=Aj.ns n b;exact⟨m,d,e _ (by simp[quietNames]),(g h b).tail⟩
end Sm
namespace Sm
open PySem PySem.Spec PyProof.Rows L2
open Ev (D O Hh Fr R aJ E Es Eo It T S Ss Fl Src bN bA TY BI ME)
section
variable(G:Tb)(cl:Nat->Addr)(nc:Nat)(su:Θ)(n:Nat)(sc:Scope)(N:X9)
def HX(X:Cx)(pins:Ψ)(σ:L2.St)(R:VK)(z:Ξ):Prop:=∀(H2:Hp) (s2:Shared) (a:Addr) (c:Nat) (H':Hp) (s':Shared),Inv X pins σ H2 s2->jY X.prog X.w X.stack H2 s2 a (cl c) H' s'->c<nc->(∀p nj,(∀b o,H' b=some o->nj b=some o)->nj p=some (.tup [.str "refused",.int c])->R (.ref p) nj)->z (.ref a) s'
def Cq(ss:Ss)(x:Expr):Prop:=∀X,Good G n sc N true X->rO X.prog X.w X.K X.mg X.base G cl su n->∀(pins:Ψ) (s:Shared) (σ:L2.St) (H:Hp) (D:Ends) (E':Ξ),Inv X pins σ H s->pY X.K (List.range N.length) (Ev.run G.F G.w n) G.w ss D σ H->HX cl nc X pins σ D.rt E'->wpAny (model X.prog X.w) X.A (eval x X.env) (EP X pins σ D.rt) E' s
def TB(ss:Ss)(xs:List Stmt):Prop:=∀X,Good G n sc N true X->rO X.prog X.w X.K X.mg X.base G cl su n->∀(pins:Ψ) (s:Shared) (σ:L2.St) (H:Hp) (D:Ends) (E':Ξ),Inv X pins σ H s->pY X.K (List.range N.length) (Ev.run G.F G.w n) G.w ss D σ H->HX cl nc X pins σ D.rt E'->wpAny (model X.prog X.w) X.A (execs xs X.env) (λf s2=>∃u,f=.ret u/\EP X pins σ D.rt u s2) E' s
end
section
variable{G:Tb}{cl:Nat->Addr}{nc:Nat}{su:Θ}{n:Nat}{sc:Scope}{N:X9}{a:E}{xa xb xc:Expr}{pos:Pos}{ta tb:Ss}
def GG{K:Φ}{D:Ends}(q:pY K m P w (.cons (.iff a ta tb) .nil) D σ H):Fy K m P a σ H λk H1=>pY K m P w (if k then ta else tb) D σ H1:=by
 obtain⟨r,b,h,fl,c,d,sr,x,e,q⟩:=q;obtain⟨⟨p,y⟩,z,f,e⟩:=Ev.ah e;obtain⟨k,g,A,f⟩:=Ev.ah f;have B:Ev.exs P w (if k then ta else tb) b g=.ok (fl,c) d:=by
  have:(.ok (p,y) z:R (Fl×Fr))=.ok (fl,c) d:=by cases p<;>exact e
  rw[<-this];cases k<;>simpa using f
 exact⟨r,b,h,k,g,sr,x,A,λH1 C j f1=>⟨C,b,g,fl,c,d,sr.mono f1,j,B,q.later f1⟩⟩
def NH(hc:JT G n sc N true (List.range N.length) a xa)(h1:Cq G cl nc su n sc N ta xb)(h2:Cq G cl nc su n sc N tb xc):Cq G cl nc su n sc N (.cons (.iff a ta tb) .nil) (.IfExp xa xb xc pos):=λX g A1 pins s σ H D E' I q hx=>by
 refine wpAny_IfExp (aaZ (hc X g pins s σ H _ I (GG q)) (λd s1 zr=>?_) λ_ _ z=>by rw[g.xe]at z;exact z.elim);obtain⟨H1,I1,b⟩:=zr;cases d with
 |true=>exact h1 X g A1 pins s1 σ H1 D E' I1 b hx
 |false=>exact h2 X g A1 pins s1 σ H1 D E' I1 b hx
def vE(h:Cq G cl nc su n sc N ta xa):TB G cl nc su n sc N ta [.Return (some xa) pos]:=λX g A1 pins s σ H D E' I q hx=>
 abX (acW (bx (h X g A1 pins s σ H D E' I q hx) λu s1 z=>⟨u,rfl,z⟩))
def Ak{Z rest:List Stmt}(hc:JT G n sc N true (List.range N.length) a xa)(h1:TB G cl nc su n sc N ta Z)(h2:TB G cl nc su n sc N tb rest):TB G cl nc su n sc N (.cons (.iff a ta tb) .nil) (.If xa Z [] pos :: rest):=λX g A1 pins s σ H D E' I q hx=>by
 refine abX (wpAny_If (aaZ (hc X g pins s σ H _ I (GG q)) (λd s1 zr=>?_) λ_ _ z=>by rw[g.xe]at z;exact z.elim));obtain⟨H1,I1,b⟩:=zr;cases d with
 |true=>exact bx (h1 X g A1 pins s1 σ H1 D E' I1 b hx) λf s2 ⟨u,e,z⟩=>by subst e;exact⟨u,rfl,z⟩
 |false=>exact ab8 (h2 X g A1 pins s1 σ H1 D E' I1 b hx)
section
variable{P:Program}{w:World}{K:Φ}{mg:W1}{base:Heap}
def Jp{st:Stmt}{i:FI}{ix:Nat}(T:Top P w K mg G)(A0:sQ P w K mg base G n)(A1:rO P w K mg base G cl su n)(R:Jo K mg rf rd Ai Wc KC)(kc:∀c,c<nc->KC (cl c) c/\W.exmOne K (.ref (cl c)) (.ref Wc)=some true)(F:o6 K x qual st i.addr i.fd)(S:aW N i.ps (av st))(WG:G.F[ft]?=some fn)(hp:i.ps.length=fn.np)(hst:cV st=[.Try bs [.ExceptHandler (some (.Name "WayError" p1)) (some "_law_e") [.Return (some (.Call (.Name "_law_refused" p2) [.Name "_law_e" p3] [] p4)) p5] p6] [] [] p7])(hb:TB G cl nc su n (av st) N fn.body bs)(h1:N[ix]?=some ("_law_e":Str))(h2:(av st).names.lookup ("_law_e":Str)=some .local)(h3:(av st).names.lookup ("_law_refused":Str)=some .globalImplicit)(h4:(av st).names.lookup ("WayError":Str)=some .globalImplicit):
  eT P w K mg base kJ (n+1) i.addr i.fd i.ps (qI K G.F G.w (n+1) ft):=by
 have b:∀p H Q E,qI K G.F G.w (n+1) ft p H Q E->p.length=i.ps.length:=λp H Q E h=>by
  obtain⟨r,h,ds,d,Z,B,_,e,_⟩:=h;simp only[Ev.gg,WG]at e;split at e
  .rename_i z;rw[B.length,z,hp]
  ·exists e
 refine F.ok S b λC A k s H p Q Ex hr Y=>?_;have hl:=b p H Q Ex Y;have hN:p.length<=N.length:=by
  have:=aaL List.length S.pre;rw[abk]at this;lia
 generalize hX:(l6 kJ P w K mg base N qual (av st) i.addr C A k s H Ex).iV=X
 have g:Good G n (av st) N true X:=by
  rw[<-hX];exact⟨rfl,rfl,rfl,λ_ _=>rfl,hr,rfl,λf i j=>⟨(T.fn f i j).1,(T.fn f i j).2.1,(T.fn f i j).2.2,A0 f i
   (KY
   j
   )
   ⟩,T.bl,T.cs,T.dk
   ,λf i j=>⟨(T.mt f i j).1,(T.mt f i j).2,A0 _ i (FO j)⟩,T.oc _
   ⟩
 have J:X.stack=X.env :: X.outer:=by rw[<-hX];rfl
 have xf:X.env.frame=some X.env.locals:=by rw[<-hX];rfl
 have y:X.K=K:=by rw[<-hX];rfl
 have xm:X.mg=mg:=by rw[<-hX];rfl
 have F1:rO X.prog X.w X.K X.mg X.base G cl su n:=by rw[<-hX];exact A1
 refine⟨pY X.K (List.range N.length) (Ev.run G.F G.w n) G.w fn.body,?_,?_⟩
 .rw[hst];refine fT.of (BH (t:=pY X.K (List.range N.length) (Ev.run G.F G.w n) G.w fn.body) λpins s1 σ1 H1 D I q=>?_) λQ s H q=>q;refine wpAny_Try_except ?_;refine aaZ (hb X g F1 pins s1 σ1 H1 D _ I q λH2 s2 a c H' s' I2 fl c4 q2=>?_) (λf s2 ⟨u,e,v,H',z1,z2,z3⟩=>?_) λ_ _ z=>z
  .obtain⟨k1,k2⟩:=kc c c4;exact RD (i:=ix) (c:=c) (by rw[y,xm];exact R) k1 (by rw[y];exact k2) J xf g.room.depth (by rw[g.nm];exact S.nd) (by rw[g.nm];exact h1) (by rw[g.sc];exact h2) (g.gl h3) (g.gl h4) I2 fl q2
  .subst e;exact⟨v,σ1,H',z1,z2,z3⟩
 .obtain⟨r,h,ds,d,Z,B,L,e,q⟩:=Y;simp only[Ev.gg,WG]at e;split at e
  .unfold Ev.endOf at e;obtain⟨⟨fl,aj⟩,h2,e1,e⟩:=Ev.ah e;refine⟨r,Ev.cX fn ds,h,fl,aj,h2,by rw[y];exact uF B hN,by rw[y];exact L,e1,?_⟩;rw[y];cases fl with
   |nx=>
    cases e;exact λs' H' r' _ M f'=>q _ H' r' rfl M f'
   |ret d'=>
    cases e;exact q
   |bk=>exists e
   |ct=>exists e
  ·exists e
end
end
section
variable{G:Tb}{cl:Nat->Addr}{rz su:Θ}{nc n:Nat}{sc:Scope}{N:X9}{a:E}{x mn:Str}{pn apos pos:Pos}{o:uc}{c:Ev.Cl}{i k f' ff:Nat}{f:Str}{es:Es}{e0:Expr}{xs:Kx}
def RI{X:Cx}{k:Nat}{f C:Addr}{fd:FuncData}{ps:X9}{sp:Sp}{o e:Expr}{es:Kx}{ta:TE}{t:TA}{pl:Sem Bool}{pins:Ψ}{σ:L2.St}{H:Hp}{s:Shared}{Ex:XK}{Q:Ξ}{E':Ξ}(he:PE X o ta)(c:mZ X.K C)(hm:Meth X.K C mn f)(F:eT X.prog X.w X.K X.mg X.base (vC X.prog X.w) k f fd ps sp)(hr:fJ k X.A)(hb:Binds X.K fd ps [])(ha:PA X (e :: es) t)(LL:X.xe=λ_ _=>False)(Z:qN e es X.env)(hpl:qW pos es X.env)(ht:eval (.Call (.Attribute o mn apos) (e :: es) [] pos) X.env=(do
   let ov <-eval o X.env
   standAt apos.atName
   let (f,first) <-holding [ov] (getMethod ov mn pl)
   callWith pos f first (backTo pos (starEach (e :: es) X.env)) (backToKw pos (keywordEach [] X.env))))(I:Inv X pins σ H s)(h:ta σ H λx H1=>∃a dx fs,x=.ref a/\H1 a=some (.ins C dx fs)/\fs.lookup mn=none/\t σ H1 λvs H2=>sp (.ref a :: vs) H2 (λ_ _=>False) Ex)(q:∀H1 s1 a C H' s',Inv X pins σ H1 s1->jY X.prog X.w X.stack H1 s1 a C H' s'->Ex (.ref C) none H'->E' (.ref a) s'):
  wpAny (model X.prog X.w) X.A (eval (.Call (.Attribute o mn apos) (e :: es) [] pos) X.env) Q E' s:=by
 refine abW (pl:=pl) (aaZ (he pins s σ H _ I h) (λu s1 zr=>?_) (λ_ _ z=>by rw[LL]at z;exact z.elim)) ht;obtain⟨x,H1,I1,B,a,dx,fs,ex,J,l,L⟩:=zr;subst ex;obtain rfl:u=Value.ref a:=B;refine mC I1 J c hm l ?_;refine acf (first:=[.ref a]) (h₀:=X.base) I.ok.mod.dX hm.kp (aaZ (ha pos pins s1 σ H1 _ I1 L) (λg s2 ⟨vs,H2,I2,r,p⟩=>⟨I2.iu,?_⟩) (λ_ _ z=>by rw[LL]at z;exact z.elim)) Z hpl;have M:(Value.ref a :: g).length=ps.length:=by
  have y:=F.len _ _ _ _ p;rw[aaI,r.length]at y;exact y
 have b:=hb s2 (Value.ref a :: g) I2.iu (by rw[aaJ];exact M);rw[aaJ]at b;refine aco (abT (F.run X.A X.stack s2 H2 ⟨Value.ref a :: g,[]⟩ (Value.ref a :: g) (.ref a :: vs) _ Ex hr I2.lZ b (.cons rfl r) p) λj s' d=>?_);cases j with
 |error e=>
  obtain⟨a,C,H',rfl,fl,P⟩:=d;exact q H2 s2 a C H' s' I2 fl P
 |ok fl=>
  cases fl with
  |ret u=>obtain⟨v,H',_,_,_,_,_,z⟩:=d;exact z.elim
  |next=>exact d.elim
  |brk=>exact d.elim
  |cont=>exact d.elim
def NI{X:Cx}{k:Nat}{f C:Addr}{fd:FuncData}{ps:X9}{sp:Sp}{o:Expr}{Z:TE}{pl:Sem Bool}{pins:Ψ}{σ:L2.St}{H:Hp}{s:Shared}{Ex:XK}{Q:Ξ}{E':Ξ}(he:PE X o Z)(c:mZ X.K C)(hm:Meth X.K C mn f)(F:eT X.prog X.w X.K X.mg X.base (vC X.prog X.w) k f fd ps sp)(hr:fJ k X.A)(hb:Binds X.K fd ps [])(LL:X.xe=λ_ _=>False)(ht:eval (.Call (.Attribute o mn apos) [] [] pos) X.env=(do
   let ov <-eval o X.env
   standAt apos.atName
   let (f,first) <-holding [ov] (getMethod ov mn pl)
   callWith pos f first (backTo pos (starEach [] X.env)) (backToKw pos (keywordEach [] X.env))))(I:Inv X pins σ H s)(h:Z σ H λx H1=>∃a dx fs,x=.ref a/\H1 a=some (.ins C dx fs)/\fs.lookup mn=none/\sp [.ref a] H1 (λ_ _=>False) Ex)(q:∀H1 s1 a C H' s',Inv X pins σ H1 s1->jY X.prog X.w X.stack H1 s1 a C H' s'->Ex (.ref C) none H'->E' (.ref a) s'):
  wpAny (model X.prog X.w) X.A (eval (.Call (.Attribute o mn apos) [] [] pos) X.env) Q E' s:=by
 refine abW (pl:=pl) (aaZ (he pins s σ H _ I h) (λu s1 zr=>?_) (λ_ _ z=>by rw[LL]at z;exact z.elim)) ht;obtain⟨x,H1,I1,p,a,dx,fs,ex,r,l,j⟩:=zr;subst ex;obtain rfl:u=Value.ref a:=p;refine mC I1 r c hm l ?_;refine adE (first:=[.ref a]) I1.iu hm.kp ?_;have y:[Value.ref a].length=ps.length:=F.len _ _ _ _ j;have b:=hb s1 [Value.ref a] I1.iu (by rw[aaJ];exact y);rw[aaJ]at b;refine aco (abT (F.run X.A X.stack s1 H1 ⟨[Value.ref a],[]⟩ [Value.ref a] [.ref a] _ Ex hr I1.lZ b (.cons rfl .nil) j) λg s' d=>?_);cases g with
 |error e=>
  obtain⟨a,C,H',rfl,fl,B⟩:=d;exact q H1 s1 a C H' s' I1 fl B
 |ok fl=>
  cases fl with
  |ret u=>obtain⟨v,H',_,_,_,_,_,z⟩:=d;exact z.elim
  |next=>exact d.elim
  |brk=>exact d.elim
  |cont=>exact d.elim
def Cr{f' ff i k:Nat}{cp:Pos}{pl:Env->Sem Bool}(hG:G.F.length<=1000)(ho:o∈G.oc)(hc:o.c=c)(hm:(mn,f')∈o.ms)(hf:ff=G.fi.length+f')(vF:su.contains ff=true)(hv:vB sc N (List.range N.length) x i=true)(hs:JA G n sc N true (List.range N.length) es (e0 :: xs))(hn:nc≠1001)(hst:∀env:Env,qN e0 xs env:=by intro _;rfl)(hpl:∀env:Env,qW cp xs env:=by intro _;rfl)(ht:∀env:Env,eval (.Call (.Attribute (.Name x pn) mn apos) (e0 :: xs) [] cp) env=(do
   let ov <-eval (.Name x pn) env
   standAt apos.atName
   let (f,first) <-holding [ov] (getMethod ov mn (pl env))
   callWith cp f first (backTo cp (starEach (e0 :: xs) env)) (backToKw cp (keywordEach [] env))):=by intro _;rfl):
  Cq G cl nc su n sc N (.cons (.exp (.fu c .len i k .nil)) (.cons (.tr ff nc (.cons (.v i) es)) .nil)) (.Call (.Attribute (.Name x pn) mn apos) (e0 :: xs) [] cp):=λX g A1 pins s1 σ1 H1 D E' I q hx'=>by
 obtain⟨r,fr,h,fl,aj,M,sr,b,e,q⟩:=q;simp only[Ev.exs,Ev.iM]at e;obtain⟨⟨fl0,cX⟩,h0',Am,e⟩:=Ev.ah e;obtain⟨d0,Zr,Jq,Am⟩:=Ev.ah Am;cases Am;obtain⟨nn,Cs,as0,h2,n1,kK,xs0,z0,z1,z2,z3,z4⟩:=vA Jq;simp only[Ev.bu]at z1;cases z1;cases z4;simp only at e;obtain⟨⟨iB,af⟩,h2',H,e⟩:=Ev.ah e;obtain⟨ds,Y,J,H⟩:=Ev.ah H;obtain⟨y,h4',A,H⟩:=Ev.ah H;cases H;cases e;cases ey:Ev.run G.F G.w n ff ds Y with
 |ok d hd=>
  rw[ey]at A;obtain⟨rfl,rfl⟩:d=y/\hd=M:=by simpa[Ev.tryD]using A
  exact aaZ (Gq (pos:=cp) (pn:=pn) (apos:=apos) ho hc hm hf hv hs hst hpl ht X g pins s1 σ1 H1 D.rt I ⟨r,fr,h,d,_,sr,b,by simp only[Ev.ev,Ev.ri,z0,abP,aa0,J,Ev.ak,ey],q⟩) (λ_ _ z=>z) (λ_ _ z=>by rw[g.xe]at z;exact z.elim)
 |bad=>
  rw[ey]at A;simp only[Ev.tryD]at A;obtain⟨dc,h5',e5,A⟩:=Ev.ah A;obtain⟨L,rfl,ex⟩:=GF hG e5;obtain⟨P,e7⟩:=Ev.aH A;subst e7;simp only[Ev.DH]at P;split at P
  case isFalse=>exists P
  rename_i hc4;cases P;have c4:L<nc:=by lia
  subst hc;subst hf;obtain⟨C,oc⟩:=g.oc o ho;obtain⟨fi,Q,Z,m3⟩:=oc.ms _ hm;obtain⟨k1,k2,k3⟩:=g.mt f' fi Q;obtain⟨j,hj,pv⟩:=uJ (pn:=pn) g hv;obtain⟨w1,w2⟩:=jJ z0;obtain⟨v,y1,a,rfl,W⟩:=sr.sl j i _ hj w1;obtain⟨a',dx,fs,w⟩:=b.ox.ob nn _ Cs w2;obtain⟨C',u1,u2⟩:=w.ins;rw[oc.ns]at u1;cases u1;have y3:=w.at_;rw[y3]at W;cases W;simp only[Ev.bu,Ev.ev,w1,Option.join,Option.bind,id,Ev.bS,Ev.ak]at J;obtain⟨as',h6,e8,J⟩:=Ev.ah J;cases J;refine RI (Ex:=λv _ H'=>v=.ref (cl L)/\∃B,HR X.K H' B M/\Fm X.K r B H1 H') pv oc.cl Z (A1 _ fi (FO Q) vF) g.room k2 (hs X g) g.xe (hst _) (hpl _) (ht _) I ⟨_,y1,a,dx,fs,rfl,u2,w.no _ m3,r,fr,h,as',_,sr,b,e8,λvs H2 r2 v2 hr2 f2=>⟨r2,_,_,L,M,.cons (show RV X.K H2 r2 (.ref nn) (.ref a)from ⟨a,rfl,f2.pre _ _ y3⟩) v2,hr2,ex,λH' B y1 W=>⟨rfl,B,y1,f2.trans W⟩⟩⟩ λH2 s2 a C H' s' I2 fl zr=>?_;obtain⟨hC,B,mh,f3⟩:=zr
  exists hC
  refine hx' H2 s2 a L H' s' I2 fl c4 λp nj Q Z=>?_;obtain⟨f4,yl⟩:=Cp (K:=X.K) (r:=B) (h:=M) Q;exact q _ nj B ⟨p,[.str "refused",.int L],rfl,.of Z,⟨_,_,rfl,⟨by decide,by decide⟩,⟨_,_,rfl,rfl,rfl⟩⟩⟩ (yl mh) (f3.trans f4)
def uM{f' ff i k:Nat}{cp:Pos}{pl:Env->Sem Bool}(hG:G.F.length<=1000)(ho:o∈G.oc)(hc:o.c=c)(hm:(mn,f')∈o.ms)(hf:ff=G.fi.length+f')(vF:su.contains ff=true\/rz.contains ff=false)(hz:Ev.rq rz 0 G.F=true)(hv:vB sc N (List.range N.length) x i=true)(hn:nc≠1001)(ht:∀env:Env,eval (.Call (.Attribute (.Name x pn) mn apos) [] [] cp) env=(do
   let ov <-eval (.Name x pn) env
   standAt apos.atName
   let (f,first) <-holding [ov] (getMethod ov mn (pl env))
   callWith cp f first (backTo cp (starEach [] env)) (backToKw cp (keywordEach [] env))):=by intro _;rfl):
  Cq G cl nc su n sc N (.cons (.exp (.fu c .len i k .nil)) (.cons (.tr ff nc (.cons (.v i) .nil)) .nil)) (.Call (.Attribute (.Name x pn) mn apos) [] [] cp):=λX g A1 pins s1 σ1 H1 D E' I q hx'=>by
 obtain⟨r,fr,h,fl,aj,L,sr,b,e,q⟩:=q;simp only[Ev.exs,Ev.iM]at e;obtain⟨⟨fl0,cX⟩,h0',Am,e⟩:=Ev.ah e;obtain⟨d0,Zr,Jq,Am⟩:=Ev.ah Am;cases Am;obtain⟨nn,Cs,as0,h2,n1,kK,xs0,z0,z1,z2,z3,z4⟩:=vA Jq;simp only[Ev.bu]at z1;cases z1;cases z4;simp only at e;obtain⟨⟨iB,af⟩,h2',H,e⟩:=Ev.ah e;obtain⟨ds,W,Y,H⟩:=Ev.ah H;obtain⟨y,h4',A,H⟩:=Ev.ah H;cases H;cases e;cases ey:Ev.run G.F G.w n ff ds W with
 |ok d hd=>
  rw[ey]at A;obtain⟨rfl,rfl⟩:d=y/\hd=L:=by simpa[Ev.tryD]using A
  exact aaZ (sX (pos:=cp) (pn:=pn) (apos:=apos) ho hc hm hf hv ht X g pins s1 σ1 H1 D.rt I ⟨r,fr,h,d,_,sr,b,by simp only[Ev.ev,Ev.ri,z0,abP,aa0,Y,Ev.ak,ey],q⟩) (λ_ _ z=>z) (λ_ _ z=>by rw[g.xe]at z;exact z.elim)
 |bad=>
  rw[ey]at A;simp only[Ev.tryD]at A;obtain⟨dc,h5',e5,A⟩:=Ev.ah A;obtain⟨J,rfl,ex⟩:=GF hG e5;obtain⟨M,e7⟩:=Ev.aH A;subst e7;simp only[Ev.DH]at M;split at M
  case isFalse=>exists M
  rename_i hc4;cases M;have c4:J<nc:=by lia
  subst hc;subst hf;replace vF:su.contains (G.fi.length+f')=true:=by
   rcases vF with vF|vF
   .exact vF
   .rw[Ev.wV hz _ _ _ vF]at ex;cases ex
  obtain⟨C,oc⟩:=g.oc o ho;obtain⟨fi,P,Z,m3⟩:=oc.ms _ hm;obtain⟨k1,k2,k3⟩:=g.mt f' fi P;obtain⟨j,hj,pv⟩:=uJ (pn:=pn) g hv;obtain⟨w1,w2⟩:=jJ z0;obtain⟨v,y1,a,rfl,Q⟩:=sr.sl j i _ hj w1;obtain⟨a',dx,fs,w⟩:=b.ox.ob nn _ Cs w2;obtain⟨C',u1,u2⟩:=w.ins;rw[oc.ns]at u1;cases u1;have y3:=w.at_;rw[y3]at Q;cases Q;simp only[Ev.bu,Ev.ev,w1,Option.join,Option.bind,id,Ev.bS,Ev.ak]at Y;cases Y;refine NI (Ex:=λv _ H'=>v=.ref (cl J)/\∃B,HR X.K H' B L/\Fm X.K r B H1 H') pv oc.cl Z (A1 _ fi (FO P) vF) g.room k2 g.xe (ht _) I ⟨_,y1,a,dx,fs,rfl,u2,w.no _ m3,r,_,_,J,L,.cons (show RV X.K H1 r (.ref nn) (.ref a)from ⟨a,rfl,y3⟩) (by simp[aV]),b,ex,λH' B y1 Q=>⟨rfl,B,y1,Q⟩⟩ λH2 s2 a C H' s' I2 fl zr=>?_;obtain⟨hC,B,mh,f3⟩:=zr
  exists hC
  refine hx' H2 s2 a J H' s' I2 fl c4 λp nj P Z=>?_;obtain⟨f4,yl⟩:=Cp (K:=X.K) (r:=B) (h:=L) P;exact q _ nj B ⟨p,[.str "refused",.int J],rfl,.of Z,⟨_,_,rfl,⟨by decide,by decide⟩,⟨_,_,rfl,rfl,rfl⟩⟩⟩ (yl mh) (f3.trans f4)
end
end Sm
namespace Pv
open Ev (D bN bA TY BI ME T E Es Eo It S Ss Fn big deep b2i rep cK fO bz aY cut dh fz slots)
def nd{α:Type _}{a b:α}(h:a=b):a=b:=h
inductive V where
 |aN|bl (b:Bool)|int (i:Int)|str (s:Θ)|tup (l:List V)|lst (l:List V)|bY (l:List V)
abbrev _root_.T0:=List V
inductive Sl where
 |val (v:V)|own (l:T0)|bor (l:T0)|ro (l:T0)
 |oo (c:Ev.Cl) (l:T0)|ob (c:Ev.Cl) (l:T0)|oq (c:Ev.Cl) (l:T0)
abbrev _root_.T2:=Option Sl
abbrev Fr:=List (T2)
inductive R(α:Type) where
 |ok (a:α) (fr:Fr)
 |bad
def R.bind{α β:Type}(r:R α)(f:α->Fr->R β):R β:=
 match r with
 |.ok a h=>f a h
 |.bad=>.bad
@[simp] theorem ak{α β:Type}(a:α)(h:Fr)(f:α->Fr->R β):(R.ok a h).bind f=f a h:=nd rfl
@[simp] theorem II{α β:Type}(f:α->Fr->R β):(R.bad:R α).bind f=.bad:=nd rfl
def ah{α β:Type}{r:R α}{f:α->Fr->R β}{b:β}(e:r.bind f=.ok b h):∃a h1,r=.ok a h1/\f a h1=.ok b h:=by
 cases r with
 |ok a h1=>exact⟨a,h1,rfl,e⟩
 |bad=>exists e
def R.of{α:Type}(o:Option α)(h:Fr):R α:=match o with
 |some a=>.ok a h
 |none=>.bad
@[simp] theorem bS{α:Type}(a:α)(h:Fr):R.of (some a) h=.ok a h:=nd rfl
@[simp] theorem of_none{α:Type}(h:Fr):R.of (none:Option α) h=.bad:=nd rfl
def aH{α:Type}{o:Option α}{a:α}(e:R.of o h=.ok a h'):o=some a/\h'=h:=by
 cases o with
 |none=>exists e
 |some b=>exists e;exact⟨rfl,rfl⟩
inductive Fl where
 |nx|bk|ct|ret (v:V)
mutual
noncomputable def ofD:D->Option V
 |.aN=>some .aN
 |.bl b=>some (.bl b)
 |.int i=>some (.int i)
 |.str s=>some (.str s)
 |.tup ds=>(An ds).map .tup
 |.ref _=>none
noncomputable def An:List D->Option (T0)
 |[]=>some []
 |d :: ds=>(ofD d).bind λv=>(An ds).map λa=>v :: a
end
def cY(f:V->V->Option Bool):List V->List V->Option Bool
 |[],[]=>some true
 |x :: xs,y :: ys=>(f x y).bind λb=>(cY f xs ys).bind λc=>some (b&&c)
 |_,_=>some false
def dQ:Nat->V->V->Option Bool
 |0,_,_=>none
 |_+1,.aN,.aN=>some true
 |_+1,.bl a,.bl b=>some (a==b)
 |_+1,.int a,.int b=>some (a==b)
 |_+1,.bl a,.int b=>some (b2i a==b)
 |_+1,.int a,.bl b=>some (a==b2i b)
 |_+1,.str a,.str b=>some (a==b)
 |n+1,.tup a,.tup b=>cY (dQ n) a b
 |n+1,.lst a,.lst b=>cY (dQ n) a b
 |n+1,.bY a,.lst b=>cY (dQ n) a b
 |n+1,.lst a,.bY b=>cY (dQ n) a b
 |_+1,.bY _,.bY _=>none
 |_+1,_,_=>some false
def truthy:V->Bool
 |.aN=>false
 |.bl b=>b
 |.int i=>i != 0
 |.str s=>!s.isEmpty
 |.tup ds=>!ds.isEmpty
 |.lst ds=>!ds.isEmpty
 |.bY ds=>!ds.isEmpty
def eV(l:T0):Option V:=if l.length<=big then some (.lst l)else none
def ny(l:T0):Option V:=if l.length<=big then some (.tup l)else none
def bO:bN->V->V->Option V
 |.add,.int i,.int j=>some (.int (i+j))
 |.add,.str a,.str b=>if a.length+b.length<=big then some (.str (a++b))else none
 |.add,.tup a,.tup b=>if a.length+b.length<=big then some (.tup (a++b))else none
 |.add,.lst a,.lst b=>eV (a++b)
 |.sub,.int i,.int j=>some (.int (i - j))
 |.mul,.int i,.int j=>if cK i j then some (.int (i*j))else none
 |.mul,.str a,.int k=>if 0<=k/\k<=1000/\a.length<=1000 then some (.str (rep k.toNat a))else none
 |.mul,.tup a,.int k=>if 0<=k/\k<=1000/\a.length<=1000 then some (.tup (rep k.toNat a))else none
 |.mul,.lst a,.int k=>if 0<=k/\k<=1000/\a.length<=1000 then eV (rep k.toNat a)else none
 |.fdiv,.int i,.int j=>if 0<j/\j<1073741824 then some (.int (i / j))else none
 |.mod,.int i,.int j=>if 0<j then some (.int (i % j))else none
 |_,_,_=>none
def cop(o:bA)(x y:V):Option Bool:=match o,x,y with
 |.eq,x,y=>dQ deep x y
 |.ne,x,y=>(dQ deep x y).map (!·)
 |.lt,.int i,.int j=>some (decide (i<j))
 |.le,.int i,.int j=>some (decide (i<=j))
 |.gt,.int i,.int j=>some (decide (j<i))
 |.ge,.int i,.int j=>some (decide (j<=i))
 |_,_,_=>none
def fy(x y:V):Option V:=match x,y with
 |.tup ds,.int i=>bz ds i
 |.str s,.int i=>(bz s i).map λc=>.str [c]
 |.lst ds,.int i=>bz ds i
 |.bY ds,.int i=>bz ds i
 |_,_=>none
def fQ(x:V)(lo hi:Option Int):Option V:=match x with
 |.tup ds=>some (.tup (cut ds lo hi))
 |.str s=>some (.str (cut s lo hi))
 |.lst ds=>eV (cut ds lo hi)
 |.bY ds=>eV (cut ds lo hi)
 |_=>none
def toT:V->Option V
 |.tup l=>some (.tup l)
 |.lst l=>ny l
 |.bY l=>ny l
 |_=>none
def boolsOf:List V->Option (List Bool)
 |[]=>some []
 |.bl b :: ds=>(boolsOf ds).map λr=>b :: r
 |_=>none
def intsOf:List V->Option Q1
 |[]=>some []
 |.int i :: ds=>(intsOf ds).map λr=>i :: r
 |_=>none
def strsOf:List V->Option Γ
 |[]=>some []
 |.str s :: ds=>(strsOf ds).map λr=>s :: r
 |_=>none
def vG:V->Option (T0)
 |.lst l=>some l
 |.bY l=>some l
 |_=>none
def cZ(b:BI)(xs:T0):Option V:=match b,xs with
 |.len,[.str s]=>if s.length<=big then some (.int s.length)else none
 |.len,[.tup ds]=>some (.int ds.length)
 |.len,[x]=>(vG x).map λds=>.int ds.length
 |.sum,[x]=>((vG x).bind intsOf).map λa=>.int a.sum
 |.min,[.int i,.int j]=>some (.int (if j<i then j else i))
 |.max,[.int i,.int j]=>some (.int (if j > i then j else i))
 |_,_=>none
def gM(m:ME)(o:V)(xs:T0):Option V:=match m,o,xs with
 |.join,.str sep,[x]=>((vG x).bind strsOf).bind λa=>if (a.map (·.length)).sum+a.length*sep.length<=big then some (.str (dh sep a))else none
 |_,_,_=>none
def nY(m:ME)(l:T0)(xs:T0):Option (V×T0):=match m,xs with
 |.append,[x]=>if l.length<big then some (.aN,l++[x])else none
 |.extend,[.lst es]=>if l.length+es.length<=big then some (.aN,l++es)else none
 |.pop,[]=>match l[l.length - 1]? with
  |some x=>some (x,l.dropLast)
  |none=>none
 |_,_=>none
def GH:ME->Bool
 |.extend=>true
 |_=>false
def ly:ME->Bool
 |.append=>true
 |.extend=>true
 |.pop=>true
 |_=>false
def ze:V->Bool
 |.aN=>true
 |.bl _=>true
 |.int _=>true
 |.str _=>true
 |_=>false
def D9(x:V):List (D×D)->Option V
 |[]=>none
 | (k,v) :: r=>match (ofD k).bind λa=>dQ 1 a x with
  |some true=>ofD v
  |some false=>D9 x r
  |none=>none
def pW(x:V)(kvs:List (D×D)):Option V:=if ze x then D9 x kvs else none
def gZ:V->Option (T0)
 |.tup ds=>some ds
 |.str s=>some (s.map λc=>.str [c])
 |.lst ds=>some ds
 |.bY ds=>some ds
 |_=>none
def Ea:V->Option (T0)
 |.tup ds=>some ds
 |_=>none
def range(lo:Int)(n:Nat):T0:=(List.range n).map λ(i:Nat)=>.int (lo+i)
def gH:List V->Option (T0)
 |[.int j]=>if -(2 ^ 62)<=j/\j<2 ^ 62 then some (range 0 j.toNat)else none
 |[.int i,.int j]=>if -(2 ^ 62)<=i/\i<2 ^ 62/\-(2 ^ 62)<=j/\j<2 ^ 62 then some (range i (j - i).toNat)else none
 |_=>none
def pX:Int->List V->T0
 |_,[]=>[]
 |k,x :: xs=>.tup [.int k,x] :: pX (k+1) xs
def put(fr:Fr)(i:Nat)(s:Sl):Option Fr:=match fr[i]? with
 |some (some (.bor _))=>none
 |some (some (.ro _))=>none
 |some (some (.ob _ _))=>none
 |some (some (.oq _ _))=>none
 |_=>some (fr.set i (some s))
def dJ:List Nat->List V->Fr->Option Fr
 |[],[],fr=>some fr
 |i :: is,d :: ds,fr=>(put fr i (.val d)).bind (dJ is ds)
 |_,_,_=>none
def cC:T->V->Fr->Option Fr
 |.one i,d,fr=>put fr i (.val d)
 |.many l,.tup ds,fr=>dJ l ds fr
 |_,_,_=>none
def undef(t:T)(fr:Fr):Bool:=(slots t).all λi=>(fr[i]?.join).isNone
def Sl.read:Sl->Sl
 |.own l=>.ro l
 |.bor l=>.ro l
 |.oo c l=>.oq c l
 |.ob c l=>.oq c l
 |s=>s
def iZ(fr:Fr):Fr:=fr.map (Option.map Sl.read)
def Sl.dz:Sl->Sl
 |.own l=>.val (.lst l)
 |s=>s
def fK(fr:Fr):Fr:=fr.map (Option.map Sl.dz)
def pZ(e:E)(fr:Fr):Fr:=match e with
 |.v j=>fr.modify j (Option.map Sl.dz)
 |_=>fr
def Sl.walk:Sl->Sl
 |.own l=>.val (.lst l)
 |.bor l=>.ro l
 |s=>s
def nZ(is:Θ)(fr:Fr):Fr:=is.foldl (λfr i=>match fr[i]? with
 |some (some s)=>fr.set i (some s.walk)
 |_=>fr) fr
def Sl.out:Sl->Option (T0)
 |.bor l=>some l
 |.ro l=>some l
 |.ob _ l=>some l
 |.oq _ l=>some l
 |_=>none
def Sl.lend:Sl->T2
 |.own l=>some (.bor l)
 |.bor l=>some (.bor l)
 |.ro l=>some (.ro l)
 |.oo c l=>some (.ob c l)
 |.ob c l=>some (.ob c l)
 |.oq c l=>some (.oq c l)
 |.val _=>none
def lent(fr:Fr)(i:Nat):T2:=match fr[i]? with
 |some (some s)=>s.lend
 |_=>none
def Sl.with:Sl->List V->Sl
 |.own _,l=>.own l
 |.bor _,l=>.bor l
 |.oo c _,l=>.oo c l
 |.ob c _,l=>.ob c l
 |s,_=>s
def back:List Nat->List (T0)->Fr->Option Fr
 |[],[],fr=>some fr
 |i :: is,l :: ls,fr=>match fr[i]? with
  |some (some s)=>back is ls (fr.set i (some (s.with l)))
  |_=>none
 |_,_,_=>none
def cL(f:V->Option (Option V)):List V->Option (T0)
 |[]=>some []
 |d :: ds=>(f d).bind λo=>(cL f ds).bind λr=>some (o.toList++r)
def forL(f:V->Fr->R Fl):List V->Fr->R Fl
 |[],fr=>.ok .nx fr
 |d :: ds,fr=>(f d fr).bind λp a=>match p with
   |.nx=>forL f ds a
   |.ct=>forL f ds a
   |.bk=>.ok .nx a
   |.ret x=>.ok (.ret x) a
def g7(t:Fr->R Bool)(f:Fr->R Fl):Nat->Fr->R Fl
 |0,_=>.bad
 |n+1,fr=>(t fr).bind λb c=>if b then (f c).bind λp a=>match p with
   |.nx=>g7 t f n a
   |.ct=>g7 t f n a
   |.bk=>.ok .nx a
   |.ret x=>.ok (.ret x) a
  else .ok .nx c
def fN:Es->Θ
 |.nil=>[]
 |.cons (.v i) a=>i :: fN a
 |.cons _ a=>fN a
def LM(m:ME):E->Θ
 |.v i=>if ly m then [i]else []
 |_=>[]
mutual
noncomputable def aL:E->Θ
 |.c _=>[]|.v _=>[]|.tup d=>dB d|.lst d=>dB d
 |.bin _ a b=>aL a++aL b|.cmp _ a b=>aL a++aL b
 |.ch _ _ a b c=>aL a++(aL b++aL c)
 |.nt a=>aL a|.neg a=>aL a|.an a b=>aL a++aL b|.orr a b=>aL a++aL b|.fV t a b=>aL t++(aL a++aL b)
 |.ix a b=>aL a++aL b|.sl a lo hi=>aL a++(kq lo++kq hi)
 |.cl _ d=>dB d++fN d|.bi _ d=>dB d|.me m o d=>aL o++(dB d++LM m o)
 |.comp _ _ e _=>Ao e
 |.jx e=>Ao e
 |.fld _ _ _=>[]|.fu _ _ _ _ d=>dB d|.fm _ _ i _ d=>dB d++[i]|.fq _ _ d=>dB d++fN d
 |.mv _ i _ _=>[i]
 |.kh a=>aL a
noncomputable def dB:Es->Θ
 |.nil=>[]
 |.cons e a=>aL e++dB a
noncomputable def kq:Eo->Θ
 |.no=>[]
 |.yes e=>aL e
noncomputable def Ao:It->Θ
 |.seq e=>aL e|.kI es=>dB es
 |.rev a=>aL a
end
def kf(a:E)(l:Θ):Bool:=match a with
 |.v i=>!l.contains i
 |_=>l.isEmpty
def itv:It->Θ
 |.seq (.v i)=>[i]
 |.rev (.v i)=>[i]
 |_=>[]
abbrev aJ:=Nat->List Sl->Option (V×List (T0))
def intOf:V->Option Int
 |.int i=>some i
 |_=>none
def jS(k:Bool)(fr:Fr)(i:Nat):Option V:=match fr[i]? with
 |some (some (.val v))=>some v
 |some (some (.own l))=>if k then some (.lst l)else none
 |some (some (.bor l))=>if k then some (.lst l)else none
 |some (some (.ro l))=>if k then some (.lst l)else none
 |_=>none
def Aq(k:Bool)(fr:Fr)(i:Nat):Option V:=match fr[i]? with
 |some (some (.ro l))=>some (.lst l)
 |_=>jS k fr i
def src(k:Bool)(fr:Fr)(e:E)(r:R V):R V:=match e with
 |.v i=>R.of (Aq k fr i) fr
 |_=>r
def jK(fr:Fr):E->Option Nat
 |.v i=>if (lent fr i).isSome then some i else none
 |_=>none
def args(fr:Fr):List (Nat ⊕ V)->Option (List Sl)
 |[]=>some []
 |.inl i :: r=>(lent fr i).bind λs=>(args fr r).map λl=>s :: l
 |.inr v :: r=>(args fr r).map λl=>.val v :: l
def bC:List (Nat ⊕ V)->Θ
 |[]=>[]
 |.inl i :: r=>i :: bC r
 |.inr _ :: r=>bC r
def cz(P:aJ)(f:Nat)(as:List (Nat ⊕ V))(fr:Fr):R V:=
 if (bC as).Nodup then match args fr as with
  |some a=>match P f a with
   |some (v,outs)=>R.of ((back (bC as) outs fr).map λb=>(v,b)) fr |>.bind λp _=>.ok p.1 p.2
   |none=>.bad
  |none=>.bad
 else .bad
def lN(c:Ev.Cl):Option (T2)->Option (T0)
 |some (some (.oo c' l))=>if c'=c then some l else none
 |some (some (.ob c' l))=>if c'=c then some l else none
 |some (some (.oq c' l))=>if c'=c then some l else none
 |_=>none
def uh(c:Ev.Cl):Option (T2)->Option (Sl×T0)
 |some (some (.oo c' l))=>if c'=c then some (.oo c l,l)else none
 |some (some (.ob c' l))=>if c'=c then some (.ob c l,l)else none
 |_=>none
def qM(c:Ev.Cl)(l:T0)(k:Nat):Option (T0):=if c.nv<=k/\k<c.nl then (match l[k]? with
  |some (.tup es)=>some es
  |_=>none)else none
def rQ(o:Ev.FU)(es as:T0):Option V:=match o,as with
 |.len,[]=>some (.int es.length)
 |.t9,[]=>some (.bl (!es.isEmpty))
 |.Wh,[]=>eV es
 |.ix,[.int j]=>bz es j
 |.BR,[.int j]=>eV (cut es (some j) none)
 |_,_=>none
def GI(o:Ev.FM)(es as:T0):Option (V×T0):=match o,as with
 |.app,[x]=>if es.length<big then some (.aN,es++[x])else none
 |.pop,[]=>match es[es.length - 1]? with
  |some x=>some (x,es.dropLast)
  |none=>none
 |_,_=>none
def Ar(c:Ev.Cl)(l:T0)(k j:Nat):Option (T0):=(qM c l k).bind λxs=>(qM c l j).bind λa=>match a[a.length - 1]? with
  |some y=>if xs.length<big/\k≠j then some ((l.set j (.tup a.dropLast)).set k (.tup (xs++[y])))else none
  |none=>none
def As(c:Ev.Cl)(fr:Fr):Es->Bool
 |.cons (.v i) _=>(lN c fr[i]?).isSome
 |_=>false
def Ct(as:T0):List Ev.TP->Option (T0)
 |[]=>some []
 |.a j :: r=>as[j]?.bind λd=>(Ct as r).map λl=>d :: l
 |.t j :: r=>as[j]?.bind λd=>(Ct as r).map λl=>.tup [d] :: l
 |.c d :: r=>(ofD d).bind λd=>(Ct as r).map λl=>d :: l
mutual
noncomputable def ev(P:aJ):Bool->E->Fr->R V
 |_,.c d,fr=>R.of (ofD d) fr
 |k,.v i,fr=>R.of (jS k fr i) fr
 |_,.tup es,fr=>(bu P false es fr).bind λds e=>R.of (ny ds) e
 |_,.lst es,fr=>(bu P false es fr).bind λds e=>R.of (eV ds) e
 |_,.bin o a b,fr=>(ev P (kf a (aL b)) a fr).bind λx e=>(ev P true b e).bind λy g=>R.of (bO o x y) g
 |_,.cmp o a b,fr=>(ev P (kf a (aL b)) a fr).bind λx e=>(ev P true b e).bind λy g=>R.of ((cop o x y).map .bl) g
 |_,.ch o p a b c,fr=>(ev P (kf a (aL b)) a fr).bind λx e=>(ev P (kf b (aL c)) b e).bind λy g=>(R.of (cop o x y) g).bind λk r=>
   if k then (ev P true c r).bind λz A=>R.of ((cop p y z).map .bl) A else .ok (.bl false) r
 |_,.nt a,fr=>(ev P true a fr).bind λx e=>match x with
   |.bl b=>.ok (.bl (!b)) e
   |_=>.bad
 |_,.neg a,fr=>(ev P true a fr).bind λx e=>match x with
   |.int i=>.ok (.int (-i)) e
   |_=>.bad
 |k,.an a b,fr=>(ev P true a fr).bind λx e=>match x with
   |.bl true=>ev P k b e
   |.bl false=>.ok (.bl false) e
   |_=>.bad
 |k,.orr a b,fr=>(ev P true a fr).bind λx e=>match x with
   |.bl true=>.ok (.bl true) e
   |.bl false=>ev P k b e
   |_=>.bad
 |k,.fV t a b,fr=>(lK P t (ev P true t fr) fr).bind λc e=>if c then ev P k a e else ev P k b e
 |_,.ix a b,fr=>(ev P (kf a (aL b)) a fr).bind λx e=>(ev P true b e).bind λy g=>R.of (fy x y) g
 |_,.sl a lo hi,fr=>(ev P (kf a (kq lo++kq hi)) a fr).bind λx e=>(jy P lo e).bind λl g=>(jy P hi g).bind λu r=>R.of (fQ x l u) r
 |_,.cl f es,fr=>(eW P es fr).bind λh e=>cz P f h e
 |_,.bi b es,fr=>(bu P true es fr).bind λds e=>R.of (cZ b ds) e
 |_,.me m o es,fr=>if ly m then match jK fr o with
   |some i=>(bu P (GH m) es fr).bind λds e=>match e[i]? with
    |some (some (.own l))=>match nY m l ds with
     |some (v,q)=>.ok v (e.set i (some (.own q)))
     |none=>.bad
    |some (some (.bor l))=>match nY m l ds with
     |some (v,q)=>.ok v (e.set i (some (.bor q)))
     |none=>.bad
    |_=>.bad
   |none=>.bad
  else (ev P (kf o (dB es)) o fr).bind λx e=>(bu P true es e).bind λds g=>R.of (gM m x ds) g
 |_,.comp elt t it cond,fr=>(fc P true it fr).bind λs e=>if undef t e then
   R.of ((cL (λd=>match cC t d (iZ e)with
    |none=>none
    |some g=>match lM P cond g with
     |.ok c _=>if c then (match ev P false elt g with|.ok x _=>some (some x)|.bad=>none)else some none
     |.bad=>none) s).bind eV) e else .bad
 |_,.jx it,fr=>(fc P true it fr).bind λs e=>R.of (eV s) e
 |_,.kh a,fr=>(ev P true a fr).bind λx e=>R.of (toT x) e
 |_,.fld c i k,fr=>match lN c fr[i]? with
  |some l=>if k<c.nv then R.of l[k]? fr else .bad
  |none=>.bad
 |_,.fu c o i k es,fr=>if (lN c fr[i]?).isSome then (bu P true es fr).bind λh e=>match lN c e[i]? with
   |some l=>R.of ((qM c l k).bind λxs=>rQ o xs h) e
   |none=>.bad
  else .bad
 |_,.fm c o i k es,fr=>if (lN c fr[i]?).isSome then (bu P false es fr).bind λh e=>match uh c e[i]? with
   |some (s,l)=>(R.of ((qM c l k).bind λxs=>GI o xs h) e).bind λp g=>.ok p.1 (g.set i (some (s.with (l.set k (.tup p.2)))))
   |none=>.bad
  else .bad
 |_,.mv c i k j,fr=>match uh c fr[i]? with
  |some (s,l)=>(R.of (Ar c l k j) fr).bind λq g=>.ok .aN (g.set i (some (s.with q)))
  |none=>.bad
 |_,.fq c f es,fr=>if As c fr es then (eW P es fr).bind λh e=>cz P f h e else .bad
noncomputable def bu(P:aJ):Bool->Es->Fr->R (T0)
 |_,.nil,fr=>.ok [] fr
 |k,.cons e es,fr=>(ev P (k&&kf e (dB es)) e fr).bind λd a=>(bu P k es a).bind λds b=>.ok (d :: ds) b
noncomputable def eW(P:aJ):Es->Fr->R (List (Nat ⊕ V))
 |.nil,fr=>.ok [] fr
 |.cons e es,fr=>match jK fr e with
   |some i=>(eW P es fr).bind λr a=>.ok (.inl i :: r) a
   |none=>(ev P false e fr).bind λd a=>(eW P es a).bind λr b=>.ok (.inr d :: r) b
noncomputable def jy(P:aJ):Eo->Fr->R (Option Int)
 |.no,fr=>.ok none fr
 |.yes e,fr=>(ev P true e fr).bind λd a=>R.of ((intOf d).map some) a
noncomputable def lM(P:aJ):Eo->Fr->R Bool
 |.no,fr=>.ok true fr
 |.yes e,fr=>lK P e (ev P true e fr) fr
noncomputable def lK(P:aJ):E->R V->Fr->R Bool
 |.an a b,_,fr=>(lK P a (ev P true a fr) fr).bind λk c=>if k then lK P b (ev P true b c) c else .ok false c
 |.orr a b,_,fr=>(lK P a (ev P true a fr) fr).bind λk c=>if k then .ok true c else lK P b (ev P true b c) c
 |.nt a,_,fr=>(lK P a (ev P true a fr) fr).bind λk c=>.ok (!k) c
 |_,v,_=>v.bind λx c=>.ok (truthy x) c
noncomputable def fc(P:aJ):Bool->It->Fr->R (T0)
 |k,.seq e,fr=>(src k fr e (ev P k e fr)).bind λx b=>R.of (gZ x) b
 |_,.kI es,fr=>(bu P true es fr).bind λds b=>R.of (gH ds) b
 |_,.rev a,fr=>(ev P true a fr).bind λx b=>R.of ((Ea x).map λs=>s.reverse) b
end
abbrev bB(P:aJ)(e:E)(fr:Fr):R Bool:=lK P e (ev P true e fr) fr
def RJ{P:aJ}{fr:Fr}:bB P (.an a b) fr=(bB P a fr).bind λk af=>if k then bB P b af else .ok false af:=nd rfl
def RK{P:aJ}{fr:Fr}:bB P (.orr a b) fr=(bB P a fr).bind λk af=>if k then .ok true af else bB P b af:=nd rfl
def RL{P:aJ}{fr:Fr}:bB P (.nt a) fr=(bB P a fr).bind λk af=>.ok (!k) af:=nd rfl
def fE{P:aJ}{e:E}{fr:Fr}(l:Ev.leaf e=true):bB P e fr=(ev P true e fr).bind λx af=>.ok (truthy x) af:=by
 cases e<;>first|rfl|nomatch l
def isNew:E->Bool
 |.lst _=>true
 |.jx _=>true
 |_=>false
def Eb(k:Nat):V->Option V
 |.int c=>if 0<=c/\c<k then some (.tup [.str [114,101,102,117,115,101,100],.int c])else none
 |_=>none
mutual
noncomputable def ex(P:aJ)(w:Nat):S->Fr->R Fl
 |.set i e,fr=>(ev P false e (pZ e fr)).bind λx g=>if isNew e then (match x with
   |.lst l=>(R.of (put g i (.own l)) g).bind λh _=>.ok .nx h
   |_=>.bad)
  else (R.of (put g i (.val x)) g).bind λh _=>.ok .nx h
 |.ki l e,fr=>(ev P false e fr).bind λx g=>(R.of (cC (.many l) x g) g).bind λh _=>.ok .nx h
 |.exp e,fr=>(ev P true e fr).bind λ_ g=>.ok .nx g
 |.ret e,fr=>(ev P false e (fK fr)).bind λx g=>.ok (.ret x) g
 |.iff t a b,fr=>(bB P t fr).bind λk g=>if k then exs P w a g else exs P w b g
 |.for t it b,fr=>(fc P false it (nZ (itv it) fr)).bind λs g=>forL (λd h=>match cC t d h with
   |some p=>exs P w b p
   |none=>.bad) s g
 |.qG t b,fr=>g7 (λh=>bB P t h) (λh=>exs P w b h) w fr
 |.cnt,fr=>.ok .ct fr
 |.fP _,_=>.bad
 |.fst c i k e,fr=>(ev P false e fr).bind λx g=>match uh c g[i]? with
  |some (s,l)=>if k<c.nv/\k<l.length then .ok .nx (g.set i (some (s.with (l.set k x))))else .bad
  |none=>.bad
 |.q9 c i k,fr=>match uh c fr[i]? with
  |some (s,l)=>if (c.nv<=k/\k<c.nl)/\k<l.length then .ok .nx (fr.set i (some (s.with (l.set k (.tup [])))))else .bad
  |none=>.bad
 |.new c i f tp es,fr=>(bu P false es fr).bind λj cX=>(cz P f [] cX).bind λ_ g=>(R.of (Ct j tp) g).bind λl h=>if l.length=c.nm.length then (R.of (put h i (.oo c l)) h).bind λp _=>.ok .nx p else .bad
 |.tr f k es,fr=>(eW P es fr).bind λj g=>(match cz P f j g with
   |.ok v h=>.ok (.ret v) h
   |.bad=>(cz P (f+Ev.xo) j g).bind λc h=>R.of ((Eb k c).map .ret) h)
noncomputable def exs(P:aJ)(w:Nat):Ss->Fr->R Fl
 |.nil,fr=>.ok .nx fr
 |.cons s ss,fr=>(ex P w s fr).bind λp a=>match p with
   |.nx=>exs P w ss a
   |p=>.ok p a
end
def cX(fn:Fn)(ds:List Sl):Fr:=ds.map some++List.replicate (fn.ns - fn.np) none
def outs(np:Nat)(fr:Fr):List (T0):=(fr.take np).filterMap λo=>o.bind Sl.out
def GJ(_:Fn)(_:List Sl):Option (V×List (T0)):=none
abbrev eE:=Nat->List Sl->Option Nat
def aay:Option Sl->Bool
 |some (.ob _ _)=>false
 |some (.oq _ _)=>false
 |_=>true
def mD(X:eE)(f:Nat)(as:List (Nat ⊕ V))(fr:Fr):Option Nat:=if (bC as).Nodup then (args fr as).bind (X f)else none
mutual
noncomputable def xe(P:aJ)(X:eE):E->Fr->Option Nat
 |.cl f es,fr=>match eW P es fr with
  |.ok a b=>mD X f a b
  |.bad=>yI P X es fr
 |.fq c f es,fr=>if As c fr es then (match eW P es fr with
  |.ok a b=>mD X f a b
  |.bad=>yI P X es fr)else none
 |_,_=>none
noncomputable def yI(P:aJ)(X:eE):Es->Fr->Option Nat
 |.nil,_=>none
 |.cons e es,fr=>match jK fr e with
  |some _=>yI P X es fr
  |none=>match ev P false e fr with
   |.ok _ a=>yI P X es a
   |.bad=>xe P X e fr
end
mutual
noncomputable def xs(P:aJ)(X:eE)(w:Nat):S->Fr->Option Nat
 |.fP c,_=>if c<9 then some c else none
 |.set _ e,fr=>xe P X e fr
 |.exp e,fr=>xe P X e fr
 |.ret e,fr=>xe P X e (fK fr)
 |.fst _ _ _ e,fr=>xe P X e fr
 |.iff t a b,fr=>match bB P t fr with
  |.ok k d=>if k then xss P X w a d else xss P X w b d
  |.bad=>xe P X t fr
 |_,_=>none
noncomputable def xss(P:aJ)(X:eE)(w:Nat):Ss->Fr->Option Nat
 |.nil,_=>none
 |.cons s ss,fr=>match ex P w s fr with
  |.ok .nx af=>xss P X w ss af
  |.ok _ _=>none
  |.bad=>xs P X w s fr
end
def Sl.jK:Sl->Bool
 |.val _=>true
 |_=>false
def qH(X:eE)(f:Nat)(ds:List Sl):Option (V×List (T0)):=if Ev.xo<=f then (X (f - Ev.xo) (ds.map Sl.read)).map λ(c:Nat)=>((.int (c:Int),ds.filterMap Sl.out):V×List (T0))else none
def runs(F:List Fn)(w:Nat):Nat->aJ×eE
 |0=>(λ_ _=>none,λ_ _=>none)
 |n+1=>
  let X:eE:=λf ds=>match F[f]? with
   |some a=>if ds.length=a.np then xss (runs F w n).1 (runs F w n).2 w a.body (cX a ds)else none
   |none=>none
  (λf ds=>match F[f]? with
   |some a=>if ds.length=a.np then match exs ((runs F w n).1) w a.body (cX a ds)with
     |.ok (.ret v) fr=>some (v,outs a.np fr)
     |.ok .nx fr=>some (.aN,outs a.np fr)
     |_=>GJ a ds
    else none
   |none=>qH X f ds,X)
def run(F:List Fn)(w n:Nat):aJ:=(runs F w n).1
def dM(F:List Fn)(w n:Nat):eE:=(runs F w n).2
def gg(F:List Fn)(w n f:Nat)(ds:List Sl):run F w (n+1) f ds=match F[f]? with
   |some a=>if ds.length=a.np then match exs (run F w n) w a.body (cX a ds)with
     |.ok (.ret v) fr=>some (v,outs a.np fr)
     |.ok .nx fr=>some (.aN,outs a.np fr)
     |_=>GJ a ds
    else none
   |none=>qH (dM F w (n+1)) f ds:=nd rfl
def kj(F:List Fn)(w n f:Nat)(ds:List Sl):dM F w (n+1) f ds=match F[f]? with
   |some a=>if ds.length=a.np then xss (run F w n) (dM F w n) w a.body (cX a ds)else none
   |none=>none:=nd rfl
open Ev (O Hh bI)
section
variable(h:Hh)(S:Ω)
mutual
def Rep:V->D->Prop
 |.aN,d=>d=.aN
 |.bl b,d=>d=.bl b
 |.int i,d=>d=.int i
 |.str s,d=>d=.str s
 |.tup l,d=>∃ds,d=.tup ds/\az l ds
 |.lst l,d=>∃n ds,d=.ref n/\S n/\h[n]?=some (.lst ds)/\az l ds
 |.bY l,d=>∃n ds,d=.ref n/\S n/\h[n]?=some (.bY ds)/\az l ds
def az:List V->List D->Prop
 |[],ds=>ds=[]
 |v :: vs,ds=>∃d es,ds=d :: es/\Rep v d/\az vs es
end
def cQ:V->D->Prop
 |.lst l,d=>∃n ds,d=.ref n/\h[n]?=some (.lst ds)/\az h S l ds
 |v,d=>Rep h S v d
def iN:List V->List D->Prop
 |[],ds=>ds=[]
 |v :: vs,ds=>∃d es,ds=d :: es/\cQ h S v d/\iN vs es
end
abbrev U:Ω:=λ_=>True
section
variable{h h':Hh}{S S':Ω}
mutual
theorem Rep.mono(f:∀m,S m->h'[m]?=h[m]?)(g:∀m,S m->S' m):∀{v:V}{d:D},Rep h S v d->Rep h' S' v d
 |.aN,_,q=>q
 |.bl _,_,q=>q
 |.int _,_,q=>q
 |.str _,_,q=>q
 |.tup l,_,⟨ds,a,b⟩=>⟨ds,a,az.mono f g b⟩
 |.lst l,_,⟨n,ds,a,b,c,e⟩=>⟨n,ds,a,g n b,by rw[f n b];exact c,az.mono f g e⟩
 |.bY l,_,⟨n,ds,a,b,c,e⟩=>⟨n,ds,a,g n b,by rw[f n b];exact c,az.mono f g e⟩
theorem az.mono(f:∀m,S m->h'[m]?=h[m]?)(g:∀m,S m->S' m):∀{v:T0}{d:U2},az h S v d->az h' S' v d
 |[],_,q=>q
 |_ :: _,_,⟨d,es,a,b,c⟩=>⟨d,es,a,Rep.mono f g b,az.mono f g c⟩
end
def az.nil:az h S [] []:=by simp[az]
def az.cons(a:Rep h S v d)(b:az h S vs ds):az h S (v :: vs) (d :: ds):=by exact⟨d,ds,rfl,a,b⟩
def Rep.top(q:Rep h S v d):cQ h S v d:=by
 cases v<;>first|exact q | (obtain⟨n,ds,a,b,c,e⟩:=q;exact⟨n,ds,a,c,e⟩)
def cQ.u(q:cQ h S v d):Rep h U v d:=by
 cases v with
 |lst l=>obtain⟨n,ds,a,b,c⟩:=q;exact⟨n,ds,a,trivial,b,c.mono (λ_ _=>rfl) λ_ _=>trivial⟩
 |_=>exact Rep.mono (S:=S) (λ_ _=>rfl) (λ_ _=>trivial) q
def az.u(q:az h S v d):az h U v d:=q.mono (λ_ _=>rfl) λ_ _=>trivial
theorem cQ.mono(f:∀m,m<h.length->h'[m]?=h[m]?)(k:∀m,S m->m<h.length)(g:∀m,S m->S' m)(q:cQ h S v d):cQ h' S' v d:=by
 cases v with
 |lst l=>
  obtain⟨n,ds,a,b,c⟩:=q;exact⟨n,ds,a,by rw[f n (gL b).1];exact b,c.mono (λm z=>f m (k m z)) g⟩
 |_=>exact Rep.mono (λm z=>f m (k m z)) g q
theorem az.length:∀{v:T0}{d:U2},az h S v d->v.length=d.length
 |[],_,q=>by subst q;rfl
 |_ :: _,_,q=>by obtain⟨d,a,rfl,_,c⟩:=q;simp[c.length]
theorem az.get:∀{v:T0}{d:U2}{i:Nat}{x:V},az h S v d->v[i]?=some x->∃y,d[i]?=some y/\Rep h S x y
 |[],_,_,_,_,e=>by simp at e
 |_ :: _,_,0,_,q,e=>by
  obtain⟨d,f,rfl,b,_⟩:=q;simp at e;subst e;exact⟨d,by simp,b⟩
 |_ :: _,_,i+1,_,q,e=>by
  obtain⟨d,f,rfl,_,c⟩:=q;obtain⟨y,a,b⟩:=c.get (by simpa using e);exact⟨y,by simpa using a,b⟩
theorem az.append:∀{v w:T0}{d e:U2},az h S v d->az h S w e->az h S (v++w) (d++e)
 |[],_,_,_,a,b=>by subst a;simpa using b
 |_ :: _,_,_,_,a,b=>by
  obtain⟨d,c,rfl,x,y⟩:=a;exact .cons x (y.append b)
theorem az.take:∀{v:T0}{d:U2}(n:Nat),az h S v d->az h S (v.take n) (d.take n)
 |_,_,0,_=>by simp[az]
 |[],_,_+1,a=>by subst a;simp[az]
 |_ :: _,_,n+1,a=>by
  obtain⟨d,b,rfl,x,y⟩:=a;exact .cons x (y.take n)
theorem az.drop:∀{v:T0}{d:U2}(n:Nat),az h S v d->az h S (v.drop n) (d.drop n)
 |_,_,0,a=>by simpa using a
 |[],_,_+1,a=>by subst a;simp[az]
 |_ :: _,_,n+1,a=>by
  obtain⟨d,b,rfl,x,y⟩:=a;exact y.drop n
theorem az.set:∀{v:T0}{d:U2}(j:Nat) {x:V}{y:D},az h S v d->Rep h S x y->az h S (v.set j x) (d.set j y)
 |[],_,_,_,_,a,_=>by subst a;simp[az]
 |_ :: _,_,0,_,_,a,b=>by
  obtain⟨d,c,rfl,x,y⟩:=a;exact .cons b y
 |_ :: _,_,j+1,_,_,a,b=>by
  obtain⟨d,c,rfl,x,y⟩:=a;exact .cons x (y.set j b)
theorem az.dropLast:∀{v:T0}{d:U2},az h S v d->az h S v.dropLast d.dropLast:=λ{v d} a=>by
 rw[abr,abr,a.length];exact a.take _
theorem az.reverse:∀{v:T0}{d:U2},az h S v d->az h S v.reverse d.reverse
 |[],_,a=>by subst a;simp[az]
 |_ :: _,_,a=>by
  obtain⟨d,b,rfl,x,y⟩:=a;simp only[aaT];exact y.reverse.append (.cons x .nil)
theorem az.rep(a:az h S v d):∀k:Nat,az h S (Ev.rep k v) (Ev.rep k d)
 |0=>by simp[Ev.rep,az]
 |k+1=>by
  have z:=az.rep a k;exact a.append z
theorem az.cut(a:az h S v d)(lo hi:Option Int):az h S (Ev.cut v lo hi) (Ev.cut d lo hi):=by
 unfold Ev.cut;rw[a.length];exact(a.drop _).take _
theorem az.map{α:Type}{f:α->V}{g:α->D}(q:∀a,Rep h S (f a) (g a)):∀l:List α,az h S (l.map f) (l.map g)
 |[]=>.nil
 |_ :: l=>.cons (q _) (az.map q l)
mutual
theorem Rep.uniq:∀{v w:V}{d:D},Rep h U v d->Rep h U w d->v=w
 |.aN,w,_,a,b=>by simp only[Rep]at a;subst a;cases w<;>simp[Rep]at b<;>rfl
 |.bl _,w,_,a,b=>by simp only[Rep]at a;subst a;cases w<;>simp[Rep]at b<;>rw[b]
 |.int _,w,_,a,b=>by simp only[Rep]at a;subst a;cases w<;>simp[Rep]at b<;>rw[b]
 |.str _,w,_,a,b=>by simp only[Rep]at a;subst a;cases w<;>simp[Rep]at b<;>rw[b]
 |.tup l,w,_,a,b=>by
  simp only[Rep]at a;obtain⟨ds,rfl,a⟩:=a;cases w<;>simp[Rep]at b
  rw[az.uniq a b]
 |.lst l,w,_,a,b=>by
  simp only[Rep]at a;obtain⟨n,ds,rfl,_,f,a⟩:=a;cases w<;>simp[Rep]at b
  .obtain⟨e,c,b⟩:=b;rw[f]at c;cases c;rw[az.uniq a b]
  .obtain⟨e,c,b⟩:=b;rw[f]at c;cases c
 |.bY l,w,_,a,b=>by
  simp only[Rep]at a;obtain⟨n,ds,rfl,_,f,a⟩:=a;cases w<;>simp[Rep]at b
  .obtain⟨e,c,b⟩:=b;rw[f]at c;cases c
  .obtain⟨e,c,b⟩:=b;rw[f]at c;cases c;rw[az.uniq a b]
theorem az.uniq:∀{v w:T0}{d:U2},az h U v d->az h U w d->v=w
 |[],w,_,a,b=>by simp only[az]at a;subst a;cases w<;>simp[az]at b;rfl
 |x :: xs,w,_,a,b=>by
  simp only[az]at a;obtain⟨d,p,rfl,c,f⟩:=a;cases w<;>simp only[az]at b
  .cases b
  obtain⟨q,g,e,j,k⟩:=b;cases e;rw[Rep.uniq c j,az.uniq f k]
end
theorem Au(f:∀v b,dQ n v v=some b->b=true):∀l b,cY (dQ n) l l=some b->b=true
 |[],b,e=>by simp[cY]at e;exact e
 |x :: xs,b,e=>by
  simp only[cY,aab]at e;obtain⟨c,a,d,g,e⟩:=e;rw[f x c a,Au f xs d g]at e;simpa using e.symm
theorem Av:∀n v b,dQ n v v=some b->b=true
 |0,_,_,e=>by exists e
 |n+1,v,b,e=>by
  cases v<;>first|exact Au (Av n) _ _ e | (exists e<;>first|rfl|exact beq_self_eq_true _)
theorem Aw(f:∀{v w:V}{d e:D}{b},dQ n v w=some b->Rep h U v d->Rep h U w e->Ev.lJ h n d e=some b):∀{l m:T0}{ds es:U2}{b},cY (dQ n) l m=some b->az h U l ds->az h U m es->Ev.cY (Ev.lJ h n) ds es=some b
 |[],[],_,_,b,e,p,q=>by subst p q;simpa[cY,Ev.cY]using e
 |[],_ :: _,_,_,b,e,p,q=>by subst p;obtain⟨_,_,rfl,_⟩:=q;simpa[cY,Ev.cY]using e
 |_ :: _,[],_,_,b,e,p,q=>by subst q;obtain⟨_,_,rfl,_⟩:=p;simpa[cY,Ev.cY]using e
 |x :: xs,y :: ys,_,_,b,e,p,q=>by
  obtain⟨d,ds,rfl,a,g⟩:=p;obtain⟨B,j,rfl,k,r⟩:=q;simp only[cY,aab]at e;obtain⟨c,z,C,A,e⟩:=e;simp[Ev.cY,f z a k,Aw f A g r];simpa using e
def kM(q:h[n]?=some (.lst ds)):bI h n=some ds:=by simp[bI,q]
def l7(q:h[n]?=some (.bY ds)):bI h n=some ds:=by simp[bI,q]
theorem pD:∀(n:Nat) {v w:V}{d e:D}{b},dQ n v w=some b->Rep h U v d->Rep h U w e->Ev.lJ h n d e=some b
  |0,_,_,_,_,_,e,_,_=>by cases e
  |n+1,v,w,d,e,b,x,p,q=>by
    by_cases A:∃m,d=.ref m/\e=.ref m
    . obtain⟨m,rfl,rfl⟩:=A;have r:=p.uniq q;subst r;have B:=Av _ _ _ x;subst B;cases v<;>simp[Rep]at p
      . obtain⟨ds,f,C⟩:=p;show Ev.m8 _ _ _ _=_;rw[Ev.m8,OL rfl,kM f];rfl
      . obtain⟨ds,f,C⟩:=p;show Ev.m8 _ _ _ _=_;rw[Ev.m8,OL rfl,l7 f];rfl
    . cases v<;>cases w<;>simp only[Rep]at p q <;>
      first
      | (subst p;subst q;exact x)
      | (obtain⟨ds,rfl,p⟩:=p;subst q;exact x)
      | (obtain⟨ds,rfl,q⟩:=q;subst p;exact x)
      | (obtain⟨ds,rfl,p⟩:=p;obtain⟨j,rfl,q⟩:=q;exact Aw (λa b c=>pD n a b c) x p q)
      | (cases x;done)
      | (obtain⟨m,ds,rfl,_,f,p⟩:=p;obtain⟨k,j,rfl,_,g,q⟩:=q
         have y:m≠k:=λz=>A ⟨m,rfl,by rw[z]⟩;show Ev.m8 _ _ _ _=_;rw[Ev.m8,aaH y,f,g];exact Aw (λa b c=>pD n a b c) x p q)
      | (cases x;obtain⟨m,ds,rfl,_,f,p⟩:=p;subst q;exact aaL (Option.map λ_=>false) (kM f))
      | (cases x;obtain⟨m,ds,rfl,_,f,p⟩:=p;subst q;exact aaL (Option.map λ_=>false) (l7 f))
      | (cases x;obtain⟨m,ds,rfl,_,f,p⟩:=p;obtain⟨j,rfl,q⟩:=q;exact aaL (Option.map λ_=>false) (kM f))
      | (cases x;obtain⟨m,ds,rfl,_,f,p⟩:=p;obtain⟨j,rfl,q⟩:=q;exact aaL (Option.map λ_=>false) (l7 f))
      | (cases x;obtain⟨m,ds,rfl,_,g,q⟩:=q;subst p;exact aaL (Option.map λ_=>false) (kM g))
      | (cases x;obtain⟨m,ds,rfl,_,g,q⟩:=q;subst p;exact aaL (Option.map λ_=>false) (l7 g))
      | (cases x;obtain⟨m,ds,rfl,_,g,q⟩:=q;obtain⟨j,rfl,p⟩:=p;exact aaL (Option.map λ_=>false) (kM g))
      | (cases x;obtain⟨m,ds,rfl,_,g,q⟩:=q;obtain⟨j,rfl,p⟩:=p;exact aaL (Option.map λ_=>false) (l7 g))
end
structure Al(h:Hh)(S:Ω)(h':Hh)(S':Ω):Prop where
 len:h.length<=h'.length
 keep:∀m,m<h.length->h'[m]?=h[m]?
 sub:∀m,S m->S' m
 new:∀m,S' m->S m\/(h.length<=m/\m<h'.length)
section
variable{h h':Hh}{S S':Ω}
def Al.refl:Al h S h S:=⟨aaB _,λ_ _=>rfl,λ_ q=>q,λ_ q=>.inl q⟩
def Al.snoc(o:O):Al h S (h++[o]) (λm=>S m\/m=h.length) where
 len:=by simp
 keep:=λm q=>by rw[jk q]
 sub:=λ_ q=>.inl q
 new:=λm q=>by
  rcases q with q|q
  .exact .inl q
  .subst q;exact .inr ⟨aaB _,by simp⟩
def ku(w:∀m,S m->m<h.length)(e:eV l=some v)(q:az h S l ds):∃r h' S',Ev.alloc ds h=.ok r h'/\Rep h' S' v r/\Al h S h' S':=by
 unfold eV at e;split at e
 .rename_i z
  exists e
  refine⟨.ref h.length,h++[.lst ds],λm=>S m\/m=h.length,by unfold Ev.alloc;rw[OL (by rw[<-q.length];exact z)],?_,Al.snoc _⟩;refine⟨h.length,ds,rfl,.inr rfl,by simp,q.mono (λm z=>?_) λ_ z=>.inl z⟩;rw[jk (w m z)]
 ·exists e
def vH(e:vG v=some l)(q:cQ h S v d):∃n ds,d=.ref n/\bI h n=some ds/\az h S l ds:=by
 cases v<;>simp[vG]at e
 .subst e;obtain⟨n,ds,rfl,a,b⟩:=q;exact⟨n,ds,rfl,kM a,b⟩
 .subst e;obtain⟨n,ds,rfl,_,a,b⟩:=q;exact⟨n,ds,rfl,l7 a,b⟩
mutual
theorem pF:∀{d:D}{v:V},ofD d=some v->Rep h S v d
 |.aN,_,e=>by simp[ofD]at e;subst e;simp[Rep]
 |.bl _,_,e=>by simp[ofD]at e;subst e;simp[Rep]
 |.int _,_,e=>by simp[ofD]at e;subst e;simp[Rep]
 |.str _,_,e=>by simp[ofD]at e;subst e;simp[Rep]
 |.ref _,_,e=>by simp[ofD]at e
 |.tup ds,_,e=>by
  simp[ofD]at e;obtain⟨a,e,rfl⟩:=e;exact⟨ds,rfl,Cu e⟩
theorem Cu:∀{d:U2}{v:T0},An d=some v->az h S v d
 |[],_,e=>by simp[An]at e;subst e;exact .nil
 |d :: ds,_,e=>by
  simp only[An,aab,ZJ]at e;obtain⟨v,a,c,b,rfl⟩:=e;exact .cons (pF a) (Cu b)
end
def az.emp(q:az h S l ds):ds.isEmpty=l.isEmpty:=by
 have:=q.length;cases l<;>cases ds<;>simp at this ⊢
def GK(q:cQ h S v d):Ev.truthy h d=some (truthy v):=by
 cases v<;>simp only[cQ,Rep]at q
 .subst q;rfl
 .subst q;rfl
 .subst q;rfl
 .subst q;rfl
 .obtain⟨ds,rfl,q⟩:=q;simp only[Ev.truthy,truthy,q.emp]
 .obtain⟨n,ds,rfl,a,q⟩:=q;simp only[Ev.truthy,truthy,kM a,Option.map,q.emp];first|done|rw[a]
 .obtain⟨n,ds,rfl,_,a,q⟩:=q;simp only[Ev.truthy,truthy,l7 a,Option.map,q.emp];first|done|rw[a]
def nn{α:Type}{v:α}{p:Prop}(z:none=some v):p:=Option.noConfusion rfl (heq_of_eq z)
def RM(w:∀m,S m->m<h.length)(z:bO o x y=some v)(p:cQ h S x d)(q:cQ h S y e):∃r h' S',Ev.bO o d e h=.ok r h'/\Rep h' S' v r/\Al h S h' S':=by
 cases o<;>cases x<;>first|exact nn z | (cases y<;>first|exact nn z|skip)
 all_goals (delta bO at z;dsimp only at z;simp only[cQ,Rep]at p q)
 ·exists z;exact⟨_,_,S,rfl,rfl,.refl⟩
 .split at z
  .rename_i k;exists z;exact⟨_,_,S,by delta Ev.bO;dsimp only;rw[OL k],rfl,.refl⟩
  ·exists z
 .obtain⟨ds,rfl,p⟩:=p;obtain⟨c,rfl,q⟩:=q;split at z
  .rename_i k;exists z;exact⟨_,_,S,by delta Ev.bO;dsimp only;rw[OL (by rw[<-p.length,<-q.length];exact k)],⟨_,rfl,p.append q⟩,.refl⟩
  ·exists z
 .obtain⟨n,ds,rfl,a,p⟩:=p;obtain⟨m,c,rfl,b,q⟩:=q
  delta Ev.bO;simp only[a,b]
  exact ku w z (p.append q)
 ·exists z;exact⟨_,_,S,rfl,rfl,.refl⟩
 .split at z
  .rename_i k;exists z;exact⟨_,_,S,by delta Ev.bO;dsimp only;rw[OL k],rfl,.refl⟩
  ·exists z
 .subst p q;split at z
  .rename_i k;exists z;exact⟨_,_,S,by delta Ev.bO;dsimp only;rw[OL k],rfl,.refl⟩
  ·exists z
 .obtain⟨ds,rfl,p⟩:=p;subst q;split at z
  .rename_i k;exists z;exact⟨_,_,S,by delta Ev.bO;dsimp only;rw[OL (by rw[<-p.length];exact k)],⟨_,rfl,p.rep _⟩,.refl⟩
  ·exists z
 .obtain⟨n,ds,rfl,a,p⟩:=p;subst q;split at z
  .rename_i k
   delta Ev.bO;dsimp only;simp only[a]
   rw[OL (by rw[<-p.length];exact k)];exact ku w z (p.rep _)
  ·exists z
 .subst p q;split at z
  .rename_i k;exists z;exact⟨_,_,S,by delta Ev.bO;dsimp only;rw[OL k],rfl,.refl⟩
  ·exists z
 .subst p q;split at z
  .rename_i k;exists z;exact⟨_,_,S,by delta Ev.bO;dsimp only;rw[OL k],rfl,.refl⟩
  ·exists z
def Ax(z:cop o x y=some b)(p:Rep h U x d)(q:Rep h U y e):Ev.cop o d e h=some b:=by
 cases o
 case eq=>delta cop at z;delta Ev.cop;exact pD deep z p q
 case ne=>
  delta cop at z;simp only[ZJ]at z;obtain⟨c,z,rfl⟩:=z
  delta Ev.cop;simp only[pD deep z p q];rfl
 all_goals (
  cases x<;>first|exact nn z | (cases y<;>first|exact nn z|skip)
  simp only[Rep]at p q;subst p q;exact z)
def zo(e:bz l i=some v)(q:az h S l ds):∃d,bz ds i=some d/\Rep h S v d:=by
 unfold bz at e ⊢;rw[q.length]at e;cases z:fO ds.length i with
 |none=>rw[z]at e;exists e
 |some j=>rw[z]at e;exact q.get e
def RN(z:fy x y=some v)(p:cQ h S x d)(q:cQ h S y e):∃r,Ev.fy d e h=some r/\Rep h S v r:=by
 cases x<;>cases y<;>simp only[fy,reduceCtorEq]at z<;>simp only[cQ,Rep]at p q
 .subst p q;simp only[ZJ]at z;obtain⟨c,z,rfl⟩:=z;exact⟨.str [c],by simp[Ev.fy,z],rfl⟩
 .obtain⟨ds,rfl,p⟩:=p;subst q;simpa[Ev.fy]using zo z p
 .obtain⟨n,ds,rfl,a,p⟩:=p;subst q;simpa[Ev.fy,kM a]using zo z p
 .obtain⟨n,ds,rfl,_,a,p⟩:=p;subst q;simpa[Ev.fy,l7 a]using zo z p
def RP(w:∀m,S m->m<h.length)(z:fQ x lo hi=some v)(p:cQ h S x d):∃r h' S',Ev.fQ d lo hi h=.ok r h'/\Rep h' S' v r/\Al h S h' S':=by
 cases x<;>simp only[fQ,reduceCtorEq]at z<;>simp only[cQ,Rep]at p
 ·exists z;exact⟨_,_,S,rfl,rfl,.refl⟩
 .obtain⟨ds,rfl,p⟩:=p;exists z;exact⟨_,_,S,rfl,⟨_,rfl,p.cut _ _⟩,.refl⟩
 .obtain⟨n,ds,rfl,a,p⟩:=p;simp only[Ev.fQ,kM a];exact ku w z (p.cut _ _)
 .obtain⟨n,ds,rfl,_,a,p⟩:=p;simp only[Ev.fQ,l7 a];exact ku w z (p.cut _ _)
def RQ(z:toT x=some v)(p:cQ h S x d):∃r,Ev.wU d h=.ok r h/\Rep h S v r:=by
 cases x<;>simp only[toT,reduceCtorEq]at z<;>simp only[cQ,Rep]at p
 .obtain⟨ds,rfl,p⟩:=p;exists z;exact⟨_,rfl,⟨_,rfl,p⟩⟩
 .obtain⟨n,ds,rfl,a,p⟩:=p;unfold ny at z;split at z
  .rename_i k;exists z;refine⟨.tup ds,?_,⟨_,rfl,p⟩⟩;simp only[Ev.wU,kM a];rw[OL (by rw[<-p.length];exact k)]
  ·exists z
 .obtain⟨n,ds,rfl,_,a,p⟩:=p;unfold ny at z;split at z
  .rename_i k;exists z;refine⟨.tup ds,?_,⟨_,rfl,p⟩⟩;simp only[Ev.wU,l7 a];rw[OL (by rw[<-p.length];exact k)]
  ·exists z
def ZT(z:vG x=some l)(p:cQ h S x d):∃s,Ev.P0 h d=some s/\az h S l s.1/\(∀q∈s.2,d=.ref q.1/\bI h q.1=some q.2):=by
 obtain⟨n,ds,rfl,a,q⟩:=vH z p;exact⟨(ds,[(n,ds)]),by simp[Ev.P0,a],q,by simp[a]⟩
theorem Jr:∀{l:T0}{ds:U2}{bs},boolsOf l=some bs->az h S l ds->Ev.boolsOf ds=some bs
 |[],_,_,e,q=>by subst q;exact e
 |x :: xs,_,bs,e,q=>by
  cases x<;>simp only[boolsOf,reduceCtorEq,ZJ]at e
  obtain⟨r,e,rfl⟩:=e;obtain⟨_,ds,rfl,rfl,q⟩:=q;simp[Ev.boolsOf,Jr e q]
theorem Cv:∀{l:T0}{ds:U2}{bs},intsOf l=some bs->az h S l ds->Ev.intsOf ds=some bs
 |[],_,_,e,q=>by subst q;exact e
 |x :: xs,_,bs,e,q=>by
  cases x<;>simp only[intsOf,reduceCtorEq,ZJ]at e
  obtain⟨r,e,rfl⟩:=e;obtain⟨_,ds,rfl,rfl,q⟩:=q;simp[Ev.intsOf,Cv e q]
theorem Cw:∀{l:T0}{ds:U2}{bs},strsOf l=some bs->az h S l ds->Ev.strsOf ds=some bs
 |[],_,_,e,q=>by subst q;exact e
 |x :: xs,_,bs,e,q=>by
  cases x<;>simp only[strsOf,reduceCtorEq,ZJ]at e
  obtain⟨r,e,rfl⟩:=e;obtain⟨_,ds,rfl,rfl,q⟩:=q;simp[Ev.strsOf,Cw e q]
def iN.one(q:iN h S [v] ds):∃d,ds=[d]/\cQ h S v d:=by
 simp only[iN]at q;obtain⟨d,b,rfl,a,rfl⟩:=q;exact⟨d,rfl,a⟩
def RT{xs:T0}(w:∀m,S m->m<h.length)(z:cZ b xs=some v)(p:iN h S xs ds):∃r h' S',Ev.cZ b ds h=.ok r h'/\Rep h' S' v r/\Al h S h' S':=by
 delta cZ at z
 rcases xs with _|⟨x,_|⟨y,_|⟨u,xs⟩⟩⟩
 .cases b<;>exact nn z
 .obtain⟨d,rfl,c⟩:=p.one;cases b
  case len=>
   cases x
   case str s=>
    dsimp only at z;split at z
    .rename_i k;exists z;exact⟨_,_,S,by delta Ev.cZ;dsimp only;rw[OL k],rfl,.refl⟩
    ·exists z
   case tup l=>
    obtain⟨e,rfl,f⟩:=c
    exists z;exact⟨_,_,S,rfl,by simp[Rep,f.length],.refl⟩
   all_goals
    simp only[ZJ]at z;obtain⟨l,z,rfl⟩:=z;obtain⟨n,e,rfl,a,q⟩:=vH z c;exact⟨.int e.length,h,S,by delta Ev.cZ;simp[a],by simp[Rep,q.length],.refl⟩
  case sum=>
   dsimp only at z;simp only[ZJ,aab]at z;obtain⟨bs,⟨l,z,g⟩,rfl⟩:=z;obtain⟨n,e,rfl,a,q⟩:=vH z c;exact⟨_,_,S,by delta Ev.cZ;dsimp only;simp only[a,Option.bind,Cv g q];rfl,rfl,.refl⟩
  case min=>cases x<;>exact nn z
  case max=>cases x<;>exact nn z
 .cases b
  case min=>
   cases x
   case int i=>
    cases y
    case int j=>
     dsimp only at z;simp only[iN,cQ,Rep]at p;obtain⟨_,_,rfl,rfl,_,_,rfl,rfl,rfl⟩:=p;cases z;exact⟨_,_,S,rfl,rfl,.refl⟩
    all_goals exact nn z
   all_goals exact nn z
  case max=>
   cases x
   case int i=>
    cases y
    case int j=>
     dsimp only at z;simp only[iN,cQ,Rep]at p;obtain⟨_,_,rfl,rfl,_,_,rfl,rfl,rfl⟩:=p;cases z;exact⟨_,_,S,rfl,rfl,.refl⟩
    all_goals exact nn z
   all_goals exact nn z
  case len=>cases x<;>exact nn z
  all_goals exact nn z
 .cases b
  case min=>cases x <;> (try cases y)<;>exact nn z
  case max=>cases x <;> (try cases y)<;>exact nn z
  case len=>cases x<;>exact nn z
  all_goals exact nn z
def RU{xs:T0}(z:gM m o xs=some v)(I:ly m=false)(po:cQ h S o d)(p:iN h S xs ds):Ev.BU m d h=true/\∃r,Ev.gM m d ds h=.ok r h/\Rep h S v r:=by
 unfold gM at z;split at z
 .obtain⟨d,rfl,c⟩:=p.one;simp only[aab]at z;obtain⟨f,⟨l,z,e⟩,b⟩:=z;obtain⟨n,g,rfl,a,q⟩:=vH z c;split at b
  .rename_i k;exists b;refine⟨rfl,_,?_,rfl⟩
   delta Ev.gM;simp only[a,Option.bind,Cw e q]
   rw[OL k]
  ·exists b
 ·exists z
def NJ(f:ze x=true)(p:Rep h U x d):Rep [] U x d:=by
 cases x<;>simp only[ze,abB]at f<;>exact p
def Zs(p:Rep h U x d):∀{kvs:List (D×D)}{v:V},pW x kvs=some v->∃r,Ev.pW d kvs=some r/\Rep h S v r:=by
 intro kvs v z;unfold pW at z;split at z
 .rename_i f;have c:=NJ f p;induction kvs with
  |nil=>exists z
  |cons e r g=>
   obtain⟨k,u⟩:=e;simp only[D9]at z;simp only[Ev.pW];split at z
   .rename_i y;simp only[aab]at y;obtain⟨j,a,b⟩:=y;rw[pD 1 b (pF a) c];exact⟨u,rfl,pF z⟩
   .rename_i y;simp only[aab]at y;obtain⟨j,a,b⟩:=y;rw[pD 1 b (pF a) c];exact g z
   ·exists z
 ·exists z
def Js(z:gZ x=some l)(p:cQ h S x d):∃s,Ev.gZ h d=some s/\az h S l s.1/\(∀q∈s.2,d=.ref q.1/\bI h q.1=some q.2):=by
 cases x<;>simp only[gZ,reduceCtorEq]at z<;>simp only[cQ,Rep]at p
 ·exists z;exact⟨_,rfl,az.map (λ_=>by simp[Rep]) _,by simp⟩
 .obtain⟨ds,rfl,p⟩:=p;exists z;exact⟨_,rfl,p,by simp⟩
 .obtain⟨n,ds,rfl,a,p⟩:=p;exists z;exact⟨(ds,[(n,ds)]),by simp[Ev.gZ,kM a],p,by simp[kM a]⟩
 .obtain⟨n,ds,rfl,_,a,p⟩:=p;exists z;exact⟨(ds,[(n,ds)]),by simp[Ev.gZ,l7 a],p,by simp[l7 a]⟩
def Ay(lo:Int)(n:Nat):az h S (range lo n) (Ev.range lo n):=az.map (λ_=>by simp[Rep]) _
def RW{xs l:T0}(z:gH xs=some l)(p:iN h S xs ds):∃s,Ev.gH ds=some (s,[])/\az h S l s:=by
 unfold gH at z;split at z
 .obtain⟨d,rfl,a⟩:=p.one;split at z
  .rename_i k;exists z;exact⟨_,by simp only[Ev.gH];rw[OL k],Ay _ _⟩
  ·exists z
 .obtain⟨_,_,rfl,rfl,_,_,rfl,rfl,rfl⟩:=p;split at z
  .rename_i k;exists z;exact⟨_,by simp only[Ev.gH];rw[OL k],Ay _ _⟩
  ·exists z
 ·exists z
theorem NK:∀{a:T0}{ds:U2}(k:Int),az h S a ds->az h S (pX k a) (Ev.pX k ds)
 |[],_,_,p=>by subst p;simp[pX,Ev.pX,az]
 |x :: xs,_,k,p=>by
  obtain⟨d,ds,rfl,b,c⟩:=p;exact .cons ⟨_,rfl,.cons rfl (.cons b .nil)⟩ (NK _ c)
end
def m6(M B:Ω)(h:Hh)(S:Ω):Option Sl->Option D->Prop
 |none,p=>p=none
 |some (.val v),p=>∃d,p=some d/\Rep h S v d
 |some (.own l),p=>∃m ds,p=some (.ref m)/\(M m/\¬ B m)/\h[m]?=some (.lst ds)/\az h S l ds
 |some (.bor l),p=>∃m ds,p=some (.ref m)/\(M m/\B m)/\h[m]?=some (.lst ds)/\az h S l ds
 |some (.ro l),p=>∃m ds,p=some (.ref m)/\¬ M m/\h[m]?=some (.lst ds)/\az h S l ds
 |some (.oo c l),p=>∃m ds,p=some (.ref m)/\(M m/\¬ B m)/\h[m]?=some (.obj c ds)/\az h S l ds
 |some (.ob c l),p=>∃m ds,p=some (.ref m)/\(M m/\B m)/\h[m]?=some (.obj c ds)/\az h S l ds
 |some (.oq c l),p=>∃m ds,p=some (.ref m)/\¬ M m/\h[m]?=some (.obj c ds)/\az h S l ds
def oO:Sl->List D->O
 |.oo c _,ds=>.obj c ds
 |.ob c _,ds=>.obj c ds
 |.oq c _,ds=>.obj c ds
 |_,ds=>.lst ds
def jA:Option Sl->Bool
 |some (.own _)=>true
 |some (.bor _)=>true
 |some (.oo _ _)=>true
 |some (.ob _ _)=>true
 |_=>false
def yJ:Option Sl->Bool
 |some (.bor _)=>true
 |some (.ro _)=>true
 |some (.ob _ _)=>true
 |some (.oq _ _)=>true
 |_=>false
def locked(fr:Fr)(i:Nat):Bool:=match fr[i]? with
 |some o=>yJ o
 |none=>false
structure bh(M B:Ω)(h:Hh)(S:Ω)(fr:Fr)(aj:Ev.Fr):Prop where
 wS:∀m,S m->m<h.length/\¬ M m/\¬ B m
 wM:∀m,M m->m<h.length
 wB:∀m,B m->m<h.length
 len:fr.length=aj.length
 sl:∀(i:Nat) o p,fr[i]?=some o->aj[i]?=some p->m6 M B h S o p
 inj:∀(i j:Nat) o o' m,fr[i]?=some o->fr[j]?=some o'->jA o=true->jA o'=true->aj[i]?=some (some (.ref m))->aj[j]?=some (some (.ref m))->i=j
def kO:Option O->Option Ev.Cl
 |some (.obj c _)=>some c
 |_=>none
structure Tk(X:Ω)(h:Hh)(S:Ω)(h':Hh)(S':Ω):Prop where
 len:h.length<=h'.length
 keep:∀m,m<h.length->¬ X m->h'[m]?=h[m]?
 sub:∀m,S m->S' m
 new:∀m,S' m->S m\/(h.length<=m/\m<h'.length)
 cls:∀m:Nat,m<h.length->kO h'[m]?=kO h[m]?
def Xs(M:Ω)(aj:Ev.Fr)(l:Θ):Ω:=λm=>M m/\∃i∈l,aj[i]?=some (some (.ref m))
structure Out(M B:Ω)(c:Θ)(h:Hh)(S:Ω)(fr:Fr)(aj:Ev.Fr)(h':Hh)(S':Ω)(af:Fr):Prop where
 f:bh M B h' S' af aj
 tr:Tk (Xs M aj c) h S h' S'
 lk:∀i,locked af i=locked fr i
section
variable{M B:Ω}{h h' h1 h2:Hh}{S S' S1 S2:Ω}{fr af ao:Fr}{aj:Ev.Fr}{c c1 c2:Θ}{v:V}{d:D}{X X1 X2:Ω}
def bh.get(f:bh M B h S fr aj){i:Nat}(e:fr[i]?=some o):∃p,aj[i]?=some p/\m6 M B h S o p:=by
 have h1:=(gL e).1;rw[f.len]at h1;exact⟨aj[i],VW h1,f.sl i o _ e (VW h1)⟩
def bh.w(f:bh M B h S fr aj):∀m,S m->m<h.length:=λm q=>(f.wS m q).1
def Al.tr(a:Al h S h' S'):Tk X h S h' S':=⟨a.len,λm q _=>a.keep m q,a.sub,a.new
 ,λm q=>by rw[a.keep m q]
 ⟩
def Tk.al(t:Tk X h S h' S')(z:∀m,¬ X m):Al h S h' S':=⟨t.len,λm q=>t.keep m q (z m),t.sub,t.new⟩
def Tk.weak(t:Tk X h S h' S')(q:∀m,X m->X1 m):Tk X1 h S h' S':=⟨t.len,λm k z=>t.keep m k λy=>z (q m y),t.sub,t.new
 ,t.cls
 ⟩
theorem Tk.trans(a:Tk X1 h S h1 S1)(b:Tk X2 h1 S1 h2 S2):Tk (λm=>X1 m\/X2 m) h S h2 S2 where
 len:=aaN a.len b.len
 keep:=λm q z=>by rw[b.keep m (WU q a.len) (λy=>z (.inr y)),a.keep m q (λy=>z (.inl y))]
 sub:=λm q=>b.sub m (a.sub m q)
 new:=λm q=>by
  rcases b.new m q with q|⟨e,f⟩
  .rcases a.new m q with q|⟨e,f⟩
   .exact .inl q
   .exact .inr ⟨e,WU f b.len⟩
  .exact .inr ⟨aaN a.len e,f⟩
 cls:=λm q=>(b.cls m (WU q a.len)).trans (a.cls m q)
theorem Al.trans(a:Al h S h1 S1)(b:Al h1 S1 h2 S2):Al h S h2 S2:=((a.tr (X:=λ_=>False)).trans (b.tr (X:=λ_=>False))).al λm z=>by simp at z
def Tk.refl:Tk X h S h S:=⟨aaB _,λ_ _ _=>rfl,λ_ q=>q,λ_ q=>.inl q
 ,λ_ _=>rfl
 ⟩
def Xs.app:Xs M aj (l1++l2) m↔Xs M aj l1 m\/Xs M aj l2 m:=by
 constructor
 .rintro⟨a,i,b,e⟩;rcases k8 b with b|b
  .exact .inl ⟨a,i,b,e⟩
  .exact .inr ⟨a,i,b,e⟩
 .rintro(⟨a,i,b,e⟩|⟨a,i,b,e⟩)
  .exact⟨a,i,List.mem_append.mpr (.inl b),e⟩
  .exact⟨a,i,List.mem_append.mpr (.inr b),e⟩
def Xs.nil:¬ Xs M aj [] m:=by rintro⟨_,i,hi,_⟩;simp at hi
def Xs.mono(q:∀i∈l1,i∈l2):Xs M aj l1 m->Xs M aj l2 m:=λ⟨a,i,b,e⟩=>⟨a,i,q i b,e⟩
def Rep.tr(q:Rep h S v d)(f:bh M B h S fr aj)(t:Tk (Xs M aj c) h S h' S'):Rep h' S' v d:=q.mono (λm z=>t.keep m (f.wS m z).1 (λy=>(f.wS m z).2.1 y.1)) t.sub
def az.tr(q:az h S l ds)(f:bh M B h S fr aj)(t:Tk (Xs M aj c) h S h' S'):az h' S' l ds:=q.mono (λm z=>t.keep m (f.wS m z).1 (λy=>(f.wS m z).2.1 y.1)) t.sub
def cQ.tr(q:cQ h S v d)(f:bh M B h S fr aj)(t:Tk X h S h' S')(z:∀m,¬ X m):cQ h' S' v d:=q.mono (λm k=>t.keep m k (z m)) f.w t.sub
def m6.al(q:m6 M B h S o p)(w:∀m,S m->m<h.length)(a:Al h S h' S'):m6 M B h' S' o p:=by
 have k:=λm z=>a.keep m (w m z);have g:∀(m:Nat) (ds:O),h[m]?=some ds->h'[m]?=some ds:=λm ds z=>by rw[a.keep m (gL z).1];exact z
 rcases o with _|s
 .exact q
 .cases s with
  |val v=>obtain⟨d,e,q⟩:=q;exact⟨d,e,q.mono k a.sub⟩
  |own l=>obtain⟨m,ds,e,z,y,q⟩:=q;exact⟨m,ds,e,z,g m _ y,q.mono k a.sub⟩
  |bor l=>obtain⟨m,ds,e,z,y,q⟩:=q;exact⟨m,ds,e,z,g m _ y,q.mono k a.sub⟩
  |ro l=>obtain⟨m,ds,e,z,y,q⟩:=q;exact⟨m,ds,e,z,g m _ y,q.mono k a.sub⟩
  |oo c l=>obtain⟨m,ds,e,z,y,q⟩:=q;exact⟨m,ds,e,z,g m _ y,q.mono k a.sub⟩
  |ob c l=>obtain⟨m,ds,e,z,y,q⟩:=q;exact⟨m,ds,e,z,g m _ y,q.mono k a.sub⟩
  |oq c l=>obtain⟨m,ds,e,z,y,q⟩:=q;exact⟨m,ds,e,z,g m _ y,q.mono k a.sub⟩
theorem bh.al(f:bh M B h S fr aj)(a:Al h S h' S'):bh M B h' S' fr aj where
 wS:=λm q=>by
  rcases a.new m q with q|⟨j,b⟩
  .exact⟨WU (f.wS m q).1 a.len,(f.wS m q).2⟩
  .exact⟨b,λz=>by have:=f.wM m z;lia,λz=>by have:=f.wB m z;lia⟩
 wM:=λm q=>WU (f.wM m q) a.len
 wB:=λm q=>WU (f.wB m q) a.len
 len:=f.len
 sl:=λi o p e g=>(f.sl i o p e g).al f.w a
 inj:=f.inj
theorem Out.refl(f:bh M B h S fr aj):Out M B c h S fr aj h S fr:=⟨f,.refl,λ_=>rfl⟩
theorem Out.trans(a:Out M B c1 h S fr aj h1 S1 af)(b:Out M B c2 h1 S1 af aj h2 S2 ao):Out M B (c1++c2) h S fr aj h2 S2 ao:=⟨b.f,(a.tr.trans b.tr).weak λm z=>Xs.app.mpr z,λi=>(b.lk i).trans (a.lk i)⟩
theorem Out.al(a:Out M B c h S fr aj h1 S1 af)(b:Al h1 S1 h2 S2):Out M B c h S fr aj h2 S2 af:=⟨a.f.al b,(a.tr.trans (b.tr (X:=λ_=>False))).weak (λm z=>by rcases z with z|z;exact z;exact z.elim),a.lk⟩
theorem Out.weak(a:Out M B c h S fr aj h1 S1 af)(q:∀i∈c,i∈c1):Out M B c1 h S fr aj h1 S1 af:=⟨a.f,a.tr.weak λm z=>Xs.mono q z,a.lk⟩
def ja(k:Bool)(h:Hh)(S:Ω)(v:V)(d:D):Prop:=if k=true then cQ h S v d else Rep h S v d
def ja.of(q:Rep h S v d):ja k h S v d:=by unfold ja;split;exact q.top;exact q
def ja.t(q:ja k h S v d):cQ h S v d:=by unfold ja at q;split at q;exact q;exact q.top
def ja.n(q:ja false h S v d):Rep h S v d:=by simpa[ja]using q
def bh.slot(f:bh M B h S fr aj){i m:Nat}(e:aj[i]?=some (some (.ref m)))(z:M m):∃o,fr[i]?=some o/\jA o=true:=by
 have a:i<fr.length:=by rw[f.len];exact(gL e).1
 refine⟨fr[i],VW a,?_⟩;have s:=f.sl i _ _ (VW a) e
 revert s
 generalize fr[i]=o
 intro s;rcases o with _|b
 ·exists s
 .cases b with
  |own l=>rfl
  |bor l=>rfl
  |ro l=>obtain⟨g,ds,e,y,_⟩:=s;cases e;exact absurd z y
  |oo c l=>rfl
  |ob c l=>rfl
  |oq c l=>obtain⟨g,ds,e,y,_⟩:=s;cases e;exact absurd z y
  |val v=>
   obtain⟨d,e,q⟩:=s
   exists e
   exfalso;cases v<;>simp only[Rep,reduceCtorEq]at q
   .obtain⟨_,e,_⟩:=q;cases e
   .obtain⟨n,ds,e,sn,_⟩:=q;exists e;exact(f.wS _ sn).2.1 z
   .obtain⟨n,ds,e,sn,_⟩:=q;exists e;exact(f.wS _ sn).2.1 z
theorem ja.tr(q:ja k h S v d)(f:bh M B h S fr aj)(t:Tk (Xs M aj c) h S h' S')(Z:k=true->kf a c=true)(ha:∀i,a=.v i->aj[i]?.join=some d):ja k h' S' v d:=by
 unfold ja at q ⊢;split at q
 .rename_i e;rw[OL e];have Z:=Z e;have b:c=[]->cQ h' S' v d:=λz=>q.tr f t λm y=>by subst z;exact Xs.nil y
  by_cases g:∃i,a=.v i
  .obtain⟨i0,rfl⟩:=g;simp only[kf,abd,List.contains_eq_mem,adi]at Z;cases v
   case lst l=>
    obtain⟨n,ds,rfl,r,A⟩:=q;refine⟨n,ds,rfl,?_,A.tr f t⟩;rw[t.keep n (gL r).1 ?_]
    .exact r
    .rintro⟨mn,j,hj,ej⟩;have x:aj[i0]?=some (some (D.ref n)):=by
      have:=ha i0 rfl;cases z:aj[i0]? with
      |none=>rw[z]at this;exists this
      |some p=>rw[z]at this;simp at this;rw[this]
     obtain⟨C,F,G⟩:=f.slot x mn;obtain⟨H,I,J⟩:=f.slot ej mn;have:=f.inj i0 j C H n F I G J x ej;subst this;exact Z hj
   all_goals exact Rep.tr (show Rep h S _ d from q) f t
  .have:kf a c=c.isEmpty:=by
    cases a<;>first|rfl|exact absurd ⟨_,rfl⟩ g
   rw[this,List.isEmpty_iff]at Z;exact b Z
 .rename_i e;rw[aaH e];exact q.tr f t
def NL(e:jS k fr i=some v)(f:bh M B h S fr aj):∃d,aj[i]?.join=some d/\ja k h S v d:=by
  unfold jS at e;split at e
  . rename_i z;obtain⟨p,a,q⟩:=f.get z;obtain⟨d,rfl,q⟩:=q
    exists e
    exact⟨d,by rw[a];rfl,.of q⟩
  all_goals first
    | (rename_i z
       obtain⟨p,a,q⟩:=f.get z;obtain⟨m,ds,rfl,_,y,q⟩:=q;split at e
       . rename_i b;cases e;exact⟨.ref m,by rw[a];rfl,by unfold ja;rw[OL b];exact⟨m,ds,rfl,y,q⟩⟩
       · exists e)
    | exists e
def bkS:Sl->List V->Prop
 |.bor l,l'=>l=l'
 |.ob _ l,l'=>l=l'
 |_,_=>False
def rkS:Sl->List V->Prop
 |.ro l,l'=>l=l'
 |.oq _ l,l'=>l=l'
 |_,_=>False
def kN(e:lent fr i=some s)(f:bh M B h S fr aj):∃m ds l o,fr[i]?=some o/\aj[i]?=some (some (.ref m))/\h[m]?=some (oO s ds)/\az h S l ds/\((bkS s l/\M m/\jA o=true)\/(rkS s l/\¬ M m/\o=some s)):=by
 unfold lent at e;split at e
 .rename_i g z;obtain⟨p,b,q⟩:=f.get z;cases g with
  |val v=>simp[Sl.lend]at e
  |own l=>
   simp[Sl.lend]at e;subst e;obtain⟨m,ds,rfl,y,a,q⟩:=q;exact⟨m,ds,l,_,z,b,a,q,.inl ⟨rfl,y.1,rfl⟩⟩
  |bor l=>
   simp[Sl.lend]at e;subst e;obtain⟨m,ds,rfl,y,a,q⟩:=q;exact⟨m,ds,l,_,z,b,a,q,.inl ⟨rfl,y.1,rfl⟩⟩
  |ro l=>
   simp[Sl.lend]at e;subst e;obtain⟨m,ds,rfl,y,a,q⟩:=q;exact⟨m,ds,l,_,z,b,a,q,.inr ⟨rfl,y,rfl⟩⟩
  |oo c l=>
   simp[Sl.lend]at e;subst e;obtain⟨m,ds,rfl,y,a,q⟩:=q;exact⟨m,ds,l,_,z,b,a,q,.inl ⟨rfl,y.1,rfl⟩⟩
  |ob c l=>
   simp[Sl.lend]at e;subst e;obtain⟨m,ds,rfl,y,a,q⟩:=q;exact⟨m,ds,l,_,z,b,a,q,.inl ⟨rfl,y.1,rfl⟩⟩
  |oq c l=>
   simp[Sl.lend]at e;subst e;obtain⟨m,ds,rfl,y,a,q⟩:=q;exact⟨m,ds,l,_,z,b,a,q,.inr ⟨rfl,y,rfl⟩⟩
 ·exists e
def Az(h:Hh)(S:Ω)(aj:Ev.Fr):List (Nat ⊕ V)->List D->Prop
 |[],ds=>ds=[]
 |.inl i :: r,ds=>∃d es,ds=d :: es/\aj[i]?=some (some d)/\Az h S aj r es
 |.inr v :: r,ds=>∃d es,ds=d :: es/\Rep h S v d/\Az h S aj r es
def oR(h:Hh)(S:Ω):List Sl->List D->List (T0)->Prop
 |[],_,os=>os=[]
 |.val _ :: sl,ds,os=>∃d es,ds=d :: es/\oR h S sl es os
 |.own _ :: _,_,_=>False
 |.oo _ _ :: _,_,_=>False
 |s :: sl,ds,os=>∃d es l r m cs,ds=d :: es/\os=l :: r/\d=.ref m/\h[m]?=some (oO s cs)/\az h S l cs/\oR h S sl es r
def qa(P:aJ)(P':Ev.aJ):Prop:=∀f sl v os,P f sl=some (v,os)->∀(h:Hh) (S B:Ω) (ds:U2),bh B B h S (sl.map some) (ds.map some)->
 ∃d h' S',P' f ds h=.ok d h'/\Rep h' S' v d/\Tk B h S h' S'/\oR h' S' sl ds os
theorem args_get(f:bh M B h S fr aj):∀{as:List (Nat ⊕ V)}{sl:List Sl}{ds:U2},args fr as=some sl->Az h S aj as ds->sl.length=ds.length/\∀(a:Nat) s d,sl[a]?=some s->ds[a]?=some d->
  (∃i,as[a]?=some (.inl i)/\lent fr i=some s/\aj[i]?=some (some d))\/(∃v,s=.val v/\Rep h S v d)
 |[],sl,ds,e,q=>by
  simp[args]at e;subst e q;simp
 |.inl i :: r,sl,ds,e,q=>by
  simp only[args,aab,ZJ]at e;obtain⟨s,A,l,j,rfl⟩:=e;obtain⟨d,C,rfl,p,q⟩:=q;obtain⟨h1,h2⟩:=args_get f j q;refine⟨by simp[h1],λa x y b g=>?_⟩;cases a with
  |zero=>simp at b g;subst b g;exact .inl ⟨i,by simp,A,p⟩
  |succ a=>exact(h2 a x y (by simpa using b) (by simpa using g)).imp (λ⟨i,k,z⟩=>⟨i,by simpa using k,z⟩) id
 |.inr v :: r,sl,ds,e,q=>by
  simp only[args,ZJ]at e;obtain⟨l,j,rfl⟩:=e;obtain⟨d,C,rfl,p,q⟩:=q;obtain⟨h1,h2⟩:=args_get f j q;refine⟨by simp[h1],λa x y b g=>?_⟩;cases a with
  |zero=>simp at b g;subst b g;exact .inr ⟨v,rfl,p⟩
  |succ a=>exact(h2 a x y (by simpa using b) (by simpa using g)).imp (λ⟨i,k,z⟩=>⟨i,by simpa using k,z⟩) id
theorem jZ:∀{as:List (Nat ⊕ V)}{a i:Nat},as[a]?=some (.inl i)->i∈bC as
 |[],_,_,e=>by simp at e
 |.inl j :: r,0,i,e=>by simp at e;subst e;simp[bC]
 |.inr j :: r,0,i,e=>by simp at e
 |.inl j :: r,a+1,i,e=>by have:=jZ (by simpa using e);simp[bC,this]
 |.inr j :: r,a+1,i,e=>by have:=jZ (by simpa using e);simp[bC,this]
theorem rR:∀{as:List (Nat ⊕ V)}{a b i:Nat},(bC as).Nodup->as[a]?=some (.inl i)->as[b]?=some (.inl i)->a=b
 |[],_,_,_,_,e,_=>by simp at e
 |x :: r,0,0,_,_,_,_=>rfl
 |.inr j :: r,0,b+1,i,n,e,_=>by simp at e
 |.inl j :: r,0,b+1,i,n,e,e2=>by
  simp at e;subst e;simp only[bC,acI]at n;exact absurd (jZ (by simpa using e2)) n.1
 |.inr j :: r,a+1,0,i,n,_,e=>by simp at e
 |.inl j :: r,a+1,0,i,n,e2,e=>by
  simp at e;subst e;simp only[bC,acI]at n;exact absurd (jZ (by simpa using e2)) n.1
 |.inl j :: r,a+1,b+1,i,n,e1,e2=>by
  simp only[bC,acI]at n;have:=rR n.2 (by simpa using e1) (by simpa using e2);lia
 |.inr j :: r,a+1,b+1,i,n,e1,e2=>by
  have:=rR (as:=r) n (by simpa using e1) (by simpa using e2);lia
def Jt:jA (some (s.with l))=jA (some s):=by cases s<;>rfl
def xA:yJ (some (s.with l))=yJ (some s):=by cases s<;>rfl
theorem AA:∀{is:Θ}{I:List (T0)}{fr af:Fr},back is I fr=some af->is.Nodup->af.length=fr.length/\(∀i,i∉is->af[i]?=fr[i]?)/\∀i∈is,∃(k:Nat) (s:Sl) (l:T0),is[k]?=some i/\I[k]?=some l/\fr[i]?=some (some s)/\af[i]?=some (some (s.with l))
 |[],[],fr,af,e,_=>by simp[back]at e;subst e;simp
 |[],_ :: _,_,_,e,_=>by simp[back]at e
 |_ :: _,[],_,_,e,_=>by simp[back]at e
 |i :: is,l :: I,fr,af,e,n=>by
  simp only[back]at e;simp only[acI]at n;split at e
  .rename_i s z;obtain⟨h1,h2,p⟩:=AA e n.2;refine⟨by simpa using h1,λj f=>?_,λj f=>?_⟩
   .simp at f;rw[h2 j f.2,T7 (λq=>f.1 q.symm)]
   .rcases qE f with rfl|f
    .exact⟨0,s,l,by simp,by simp,z,by rw[h2 j n.1,WV (gL z).1]⟩
    .obtain⟨k,r,x,a,b,c,d⟩:=p j f;have g:i≠j:=λq=>n.1 (q▸f);rw[T7 g]at c;exact⟨k+1,r,x,by simpa using a,by simpa using b,c,d⟩
  .cases e
theorem rS(f:bh M B h S fr aj):∀{as:List (Nat ⊕ V)}{sl:List Sl}{ds:U2}{os:List (T0)},args fr as=some sl->Az h S aj as ds->oR h' S' sl ds os->
    ∀(k i:Nat) l,(bC as)[k]?=some i->os[k]?=some l->∃m cs s,lent fr i=some s/\aj[i]?=some (some (.ref m))/\h'[m]?=some (oO s cs)/\az h' S' l cs
  |[],sl,ds,os,e,q,o=>by simp[bC]
  |.inl i :: r,sl,ds,os,e,q,o=>by
    simp only[args,aab,ZJ]at e;obtain⟨s,L,l,y,rfl⟩:=e;obtain⟨d,N,rfl,P,q⟩:=q;obtain⟨m,cs,Y,Z,_,z,z3,z4,x⟩:=kN L f;have A:∃a b cs,os=a :: b/\h'[m]?=some (oO s cs)/\az h' S' a cs/\oR h' S' l N b:=by
      rw[P]at z;cases z;cases s<;>first
        | (obtain⟨Q,C,a,b,m1,RX,F,G,W,H,I,J⟩:=o
           cases F;cases W;exact⟨a,b,RX,G,H,I,J⟩)
        | (rcases x with x|x<;>exact x.1.elim)
    obtain⟨a,b,RX,rfl,H,I,J⟩:=A;intro k j K g p;cases k with
    |zero=>simp[bC]at g p;subst g p;exact⟨m,RX,s,L,z,H,I⟩
    |succ k=>exact rS f y q J k j K (by simpa[bC]using g) (by simpa using p)
  |.inr v :: r,sl,ds,os,e,q,o=>by
    simp only[args,ZJ]at e;obtain⟨l,y,rfl⟩:=e;obtain⟨d,N,rfl,P,q⟩:=q;obtain⟨Q,C,F,G⟩:=o;cases F;intro k j K g p;exact rS f y q G k j K (by simpa[bC]using g) p
theorem qb:∀{as:List (Nat ⊕ V)}{sl:List Sl}{i:Nat},args fr as=some sl->i∈bC as->∃s,lent fr i=some s
 |[],_,_,_,q=>by simp[bC]at q
 |.inl j :: r,_,i,z,q=>by
  simp only[args,aab,ZJ]at z;obtain⟨s,b,l,a,rfl⟩:=z;simp[bC]at q;rcases q with rfl|q
  .exact⟨s,b⟩
  .exact qb a q
 |.inr u :: r,_,i,z,q=>by
  simp only[args,ZJ]at z;obtain⟨l,a,rfl⟩:=z;exact qb a (by simpa[bC]using q)
def LB(fr:Fr)(aj:Ev.Fr)(as:List (Nat ⊕ V)):Ω:=λm=>∃(i:Nat) (o:T2),i∈bC as/\fr[i]?=some o/\jA o=true/\aj[i]?=some (some (.ref m))
theorem LB.m(f:bh M B h S fr aj):∀m,LB fr aj as m->M m:=λm ⟨i,o,_,a,b,c⟩=>by
  have s:=f.sl i o _ a c;rcases o with _|k
  ·exists b
  .cases k with
   |val v=>exists b
   |ro l=>exists b
   |own l=>obtain⟨j,g,e,y,_⟩:=s;cases e;exact y.1
   |bor l=>obtain⟨j,g,e,y,_⟩:=s;cases e;exact y.1
   |oq c l=>exists b
   |oo c l=>obtain⟨j,g,e,y,_⟩:=s;cases e;exact y.1
   |ob c l=>obtain⟨j,g,e,y,_⟩:=s;cases e;exact y.1
def xB(f:bh M B h S fr aj)(nd:(bC as).Nodup)(z:args fr as=some sl)(q:Az h S aj as ds):bh (LB fr aj as) (LB fr aj as) h S (sl.map some) (ds.map some):=by
 have A:=LB.m f (as:=as);obtain⟨hl,H⟩:=args_get f z q;refine⟨λm y=>⟨(f.wS m y).1,λz=>(f.wS m y).2.1 (A m z),λz=>(f.wS m y).2.1 (A m z)⟩,λm y=>f.wM m (A m y),λm y=>f.wM m (A m y),by simp[hl],λa o p g r=>?_,λa b o o' m g r K L N P=>?_⟩
 .simp at g r;obtain⟨s,g,rfl⟩:=g;obtain⟨d,r,rfl⟩:=r;rcases H a s d g r with ⟨i,F,I,C⟩|⟨u,rfl,k⟩
  .obtain⟨m,Q,l0,W,G,J,Y,Z,e⟩:=kN I f;rw[C]at J;cases J;rcases e with ⟨e,w6,x⟩|⟨e,w6,x⟩
   .cases s<;>first
     | (subst e;exact⟨m,Q,rfl,⟨⟨i,W,jZ F,G,x,C⟩,⟨i,W,jZ F,G,x,C⟩⟩,Y,Z⟩)
     |exact e.elim
   .cases s<;>first
     | (subst e;exact⟨m,Q,rfl,λz=>w6 (A m z),Y,Z⟩)
     |exact e.elim
  .exact⟨d,rfl,k⟩
 .simp at g r N P;obtain⟨s,g,rfl⟩:=g;obtain⟨s',r,rfl⟩:=r;rcases H a s _ g N with ⟨i,F,I,C⟩|⟨u,rfl,k⟩
  .rcases H b s' _ r P with ⟨j,k4,k5,k6⟩|⟨u,rfl,k⟩
   .obtain⟨m1,_,l1,o1,G,J,_,_,e⟩:=kN I f;obtain⟨m2,_,l2,o2,x1,x2,_,_,x5⟩:=kN k5 f;have i1:jA o1=true:=by rcases e with ⟨_,_,x⟩|⟨e,_,rfl⟩;exact x;exact K
    have i2:jA o2=true:=by rcases x5 with ⟨_,_,x⟩|⟨x5,_,rfl⟩;exact x;exact L
    have:=f.inj i j o1 o2 m G x1 i1 i2 C k6;subst this;exact rR nd F k4
   ·exists L
  ·exists K
def nA(HP:qa P P')(e:cz P g as fr=.ok v af)(f:bh M B h S fr aj)(q:Az h S aj as ds):
  ∃d h' S',P' g ds h=.ok d h'/\Rep h' S' v d/\Out M B (bC as) h S fr aj h' S' af:=by
 unfold cz at e;split at e
 case isFalse=>exists e
 rename_i nd;cases z:args fr as with
 |none=>rw[z]at e;exists e
 |some sl=>
 rw[z]at e;simp only at e;cases z2:P g sl with
 |none=>rw[z2]at e;exists e
 |some vo=>
 obtain⟨v',os⟩:=vo;rw[z2]at e;simp only at e;cases z3:back (bC as) os fr with
 |none=>rw[z3]at e;exists e
 |some ao=>
 rw[z3]at e;simp at e;obtain⟨rfl,rfl⟩:=e;obtain⟨hl,hg⟩:=args_get f z q
 let B0:=LB fr aj as
 have W:∀m,B0 m->M m:=LB.m f;have F0:=xB f nd z q;obtain⟨d,h',S',c1,c2,x,c4⟩:=HP g sl v' os z2 h S B0 ds F0;obtain⟨b1,b2,b3⟩:=AA z3 nd;have hL:=rS f z q c4;have N:∀m,S m->h'[m]?=h[m]?:=λm y=>x.keep m (f.wS m y).1 (λz=>(f.wS m y).2.1 (W m z));refine⟨d,h',S',c1,c2,⟨?_,?_,?_⟩⟩
 .refine⟨λm y=>?_,λm y=>WU (f.wM m y) x.len,λm y=>WU (f.wB m y) x.len,by rw[b1,f.len],λi o p C G=>?_,λi j o o' m C G y3 y4 y5 y6=>?_⟩
  .rcases x.new m y with y|⟨C,G⟩
   .exact⟨WU (f.wS m y).1 x.len,(f.wS m y).2⟩
   .exact⟨G,λz=>by have:=f.wM m z;lia,λz=>by have:=f.wB m z;lia⟩
  .by_cases J:i∈bC as
   .obtain⟨k,s,l,r,A,H,w4⟩:=b3 i J;rw[w4]at C;exists C;obtain⟨m,cs,s',Y,K,I,F⟩:=hL k i l r A;rw[K]at G;exists G;simp only[lent,H]at Y;have b:=f.sl i _ _ H K;cases s with
    |val u=>
     exfalso;have:∃s,lent fr i=some s:=qb z J;obtain⟨s,hs⟩:=this;simp[lent,H,Sl.lend]at hs
    |own u=>exists Y;obtain⟨Z,a,e,y,_⟩:=b;cases e;exact⟨m,cs,rfl,y,I,F⟩
    |bor u=>exists Y;obtain⟨Z,a,e,y,_⟩:=b;cases e;exact⟨m,cs,rfl,y,I,F⟩
    |ro u=>
     obtain⟨Z,a,e,y,C,G⟩:=b;cases e;refine⟨m,a,rfl,y,?_,G.mono N x.sub⟩;rw[x.keep m (gL C).1 (λz=>y (W m z))];exact C
    |oo c u=>exists Y;obtain⟨Z,a,e,y,_⟩:=b;cases e;exact⟨m,cs,rfl,y,I,F⟩
    |ob c u=>exists Y;obtain⟨Z,a,e,y,_⟩:=b;cases e;exact⟨m,cs,rfl,y,I,F⟩
    |oq c u=>
     obtain⟨Z,a,e,y,C,G⟩:=b;cases e;refine⟨m,a,rfl,y,?_,G.mono N x.sub⟩;rw[x.keep m (gL C).1 (λz=>y (W m z))];exact C
   .rw[b2 i J]at C;have b:=f.sl i o p C G;rcases o with _|s
    .exact b
    .cases s with
     |val u=>obtain⟨d,e,q⟩:=b;exact⟨d,e,q.mono N x.sub⟩
     |own u=>
      obtain⟨m,a,rfl,r,A,H⟩:=b;refine⟨m,a,rfl,r,?_,H.mono N x.sub⟩;rw[x.keep m (f.wM m r.1) (λ⟨j,Q,K,I,F,L⟩=>J (f.inj i j _ Q m C I rfl F G L▸K))];exact A
     |bor u=>
      obtain⟨m,a,rfl,r,A,H⟩:=b;refine⟨m,a,rfl,r,?_,H.mono N x.sub⟩;rw[x.keep m (f.wM m r.1) (λ⟨j,Q,K,I,F,L⟩=>J (f.inj i j _ Q m C I rfl F G L▸K))];exact A
     |ro u=>
      obtain⟨m,a,rfl,r,A,H⟩:=b;refine⟨m,a,rfl,r,?_,H.mono N x.sub⟩;rw[x.keep m (gL A).1 (λz=>r (W m z))];exact A
     |oo c u=>
      obtain⟨m,a,rfl,r,A,H⟩:=b;refine⟨m,a,rfl,r,?_,H.mono N x.sub⟩;rw[x.keep m (f.wM m r.1) (λ⟨j,Q,K,I,F,L⟩=>J (f.inj i j _ Q m C I rfl F G L▸K))];exact A
     |ob c u=>
      obtain⟨m,a,rfl,r,A,H⟩:=b;refine⟨m,a,rfl,r,?_,H.mono N x.sub⟩;rw[x.keep m (f.wM m r.1) (λ⟨j,Q,K,I,F,L⟩=>J (f.inj i j _ Q m C I rfl F G L▸K))];exact A
     |oq c u=>
      obtain⟨m,a,rfl,r,A,H⟩:=b;refine⟨m,a,rfl,r,?_,H.mono N x.sub⟩;rw[x.keep m (gL A).1 (λz=>r (W m z))];exact A
  .have kind:∀(i:Nat) o,ao[i]?=some o->jA o=true->∃o0,fr[i]?=some o0/\jA o0=true:=λi o r A=>by
    by_cases J:i∈bC as
    .obtain⟨k,s,l,K,I,F,L⟩:=b3 i J;rw[L]at r;exists r;exact⟨_,F,by rw[Jt]at A;exact A⟩
    .rw[b2 i J]at r;exact⟨o,r,A⟩
   obtain⟨oi,k1,k2⟩:=kind i o C y3;obtain⟨oj,k3,k4⟩:=kind j o' G y4;exact f.inj i j oi oj m k1 k3 k2 k4 y5 y6
 .exact x.weak λm z=>⟨W m z,by obtain⟨i,o,a1,a2,a3,a4⟩:=z;exact⟨i,a1,a4⟩⟩
 .intro i;unfold locked;by_cases J:i∈bC as
  .obtain⟨k,s,l,K,I,F,L⟩:=b3 i J;rw[F,L];exact xA
  .rw[b2 i J]
end
section
variable{M B:Ω}{h h' h1 h2:Hh}{S S' S1 S2:Ω}{fr af ao:Fr}{aj:Ev.Fr}{c:Θ}{v:V}{d:D}
def nB:(∀d,aL (.c d)=[])/\(∀i,aL (.v i)=[])/\(∀es,aL (.tup es)=dB es)/\(∀es,aL (.lst es)=dB es)/\(∀o a b,aL (.bin o a b)=aL a++aL b)/\(∀o a b,aL (.cmp o a b)=aL a++aL b)
 /\(∀o p a b c,aL (.ch o p a b c)=aL a++(aL b++aL c))
 /\(∀a,aL (.nt a)=aL a)/\(∀a,aL (.neg a)=aL a)/\(∀a b,aL (.an a b)=aL a++aL b)/\(∀a b,aL (.orr a b)=aL a++aL b)/\(∀t a b,aL (.fV t a b)=aL t++(aL a++aL b))
 /\(∀a b,aL (.ix a b)=aL a++aL b)/\(∀a lo hi,aL (.sl a lo hi)=aL a++(kq lo++kq hi))
 /\(∀f es,aL (.cl f es)=dB es++fN es)/\(∀f es,aL (.bi f es)=dB es)/\(∀m o es,aL (.me m o es)=aL o++(dB es++LM m o))
 /\(∀a b c d es,aL (.fu a b c d es)=dB es)/\(∀a b i c es,aL (.fm a b i c es)=dB es++[i])/\(∀a b es,aL (.fq a b es)=dB es++fN es)
 /\(∀a i b c,aL (.mv a i b c)=[i])
 /\(∀a,aL (.kh a)=aL a):=by and_intros<;>intros<;>rfl
def gP(q:n≠m):(h.set n o)[m]?=h[m]?:=T7 q
def bh.mM(f:bh M B h S fr aj){i n:Nat}(e:fr[i]?=some o)(z:jA o=true)(I:aj[i]?=some (some (.ref n))):M n:=by
 have s:=f.sl i o _ e I;rcases o with _|g
 ·exists z
 .cases g with
  |val v=>exists z
  |ro l=>exists z
  |own l=>obtain⟨b,a,e,y,_⟩:=s;cases e;exact y.1
  |bor l=>obtain⟨b,a,e,y,_⟩:=s;cases e;exact y.1
  |oq c l=>exists z
  |oo c l=>obtain⟨b,a,e,y,_⟩:=s;cases e;exact y.1
  |ob c l=>obtain⟨b,a,e,y,_⟩:=s;cases e;exact y.1
def bh.write(f:bh M B h S fr aj)(e:fr[i]?=some (some s))(hM:jA (some s)=true)(e':aj[i]?=some (some (.ref n)))(q:az h S l' ds'):
  bh M B (h.set n (oO s ds')) S (fr.set i (some (s.with l'))) aj:=by
 have G:=f.mM e hM e';have kp:∀m,S m->(h.set n (oO s ds'))[m]?=h[m]?:=λm z=>gP λy=>(f.wS m z).2.1 (y▸G);have J:=(gL e).1;refine⟨λm y=>by simpa using f.wS m y,λm y=>by simpa using f.wM m y,λm y=>by simpa using f.wB m y,by simp[f.len],λj o p A C=>?_,λj k o K m A C L N P Q=>?_⟩
 .by_cases F:i=j
  .subst F;rw[WV J]at A
   exists A
   rw[e']at C;exists C;have a:=f.sl i _ _ e e';have H:(h.set n (oO s ds'))[n]?=some (oO s ds'):=WV (f.wM n G);cases s with
   |val v=>exists hM
   |ro l=>exists hM
   |own l=>obtain⟨I,_,e,y,_⟩:=a;cases e;exact⟨n,ds',rfl,y,H,q.mono kp λ_ z=>z⟩
   |bor l=>obtain⟨I,_,e,y,_⟩:=a;cases e;exact⟨n,ds',rfl,y,H,q.mono kp λ_ z=>z⟩
   |oq c l=>exists hM
   |oo c l=>obtain⟨I,_,e,y,_⟩:=a;cases e;exact⟨n,ds',rfl,y,H,q.mono kp λ_ z=>z⟩
   |ob c l=>obtain⟨I,_,e,y,_⟩:=a;cases e;exact⟨n,ds',rfl,y,H,q.mono kp λ_ z=>z⟩
  .rw[T7 F]at A;have a:=f.sl j o p A C;rcases o with _|W
   .exact a
   .cases W with
    |val u=>obtain⟨d,e,q⟩:=a;exact⟨d,e,q.mono kp λ_ z=>z⟩
    |own u=>
     obtain⟨m,r,rfl,b,g,x⟩:=a;refine⟨m,r,rfl,b,?_,x.mono kp λ_ z=>z⟩;rw[gP λz=>F (f.inj i j _ _ n e A hM rfl e' (by rw[z];exact C))];exact g
    |bor u=>
     obtain⟨m,r,rfl,b,g,x⟩:=a;refine⟨m,r,rfl,b,?_,x.mono kp λ_ z=>z⟩;rw[gP λz=>F (f.inj i j _ _ n e A hM rfl e' (by rw[z];exact C))];exact g
    |ro u=>
     obtain⟨m,r,rfl,b,g,x⟩:=a;refine⟨m,r,rfl,b,?_,x.mono kp λ_ z=>z⟩;rw[gP λ(z:n=m)=>b (z▸G)];exact g
    |oo c u=>
     obtain⟨m,r,rfl,b,g,x⟩:=a;refine⟨m,r,rfl,b,?_,x.mono kp λ_ z=>z⟩;rw[gP λ(z:n=m)=>F (f.inj i j _ _ n e A hM rfl e' (by rw[z];exact C))];exact g
    |ob c u=>
     obtain⟨m,r,rfl,b,g,x⟩:=a;refine⟨m,r,rfl,b,?_,x.mono kp λ_ z=>z⟩;rw[gP λ(z:n=m)=>F (f.inj i j _ _ n e A hM rfl e' (by rw[z];exact C))];exact g
    |oq c u=>
     obtain⟨m,r,rfl,b,g,x⟩:=a;refine⟨m,r,rfl,b,?_,x.mono kp λ_ z=>z⟩;rw[gP λ(z:n=m)=>b (z▸G)];exact g
 .have kind:∀(j:Nat) o,(fr.set i (some (s.with l')))[j]?=some o->jA o=true->∃o0,fr[j]?=some o0/\jA o0=true:=λj o b g=>by
   by_cases F:i=j
   .subst F;exact⟨_,e,hM⟩
   .rw[T7 F]at b;exact⟨o,b,g⟩
  obtain⟨X,Y,Z⟩:=kind j o A L;obtain⟨oj,k3,k4⟩:=kind k K C N;exact f.inj j k X oj m Y k3 Z k4 P Q
def RY{xs:T0}(z:nY m l xs=some (v,l'))(e:h[n]?=some (.lst ds))(q:az h S l ds)(p:iN h S xs es)(I:GH m=false->az h S xs es)(Z:∀k,S k->k≠n):
  ∃r ds',Ev.gM m (.ref n) es h=.ok r (h.set n (.lst ds'))/\Rep h S v r/\az h S l' ds':=by
 unfold nY at z;split at z
 .have I:=I rfl;split at z
  .rename_i k;cases z;obtain⟨d,_,rfl,a,rfl⟩:=I;refine⟨_,_,?_,rfl,q.append (.cons a .nil)⟩
   delta Ev.gM;simp only[e]
   rw[OL (by rw[<-q.length];exact k)]
  ·exists z
 .split at z
  .rename_i k;cases z;obtain⟨d,rfl,a⟩:=p.one;obtain⟨n2,j,rfl,b,a⟩:=a;refine⟨_,_,?_,rfl,q.append a⟩
   delta Ev.gM;simp only[e,b]
   rw[OL (by rw[<-q.length,<-a.length];exact k)]
  ·exists z
 .subst p;split at z
  .rename_i x y;cases z;obtain⟨d,f,g⟩:=q.get y;refine⟨d,_,?_,g,q.dropLast⟩
   delta Ev.gM;dsimp only;simp only[e]
   rw[<-q.length,f]
  ·exists z
 ·exists z
theorem bh.set(f:bh M B h S fr aj)(e:put fr i (.val v)=some af)(q:Rep h S v d):bh M B h S af (aj.set i (some d))/\(∀j,locked af j=locked fr j)/\∀j,locked fr j=true->(aj.set i (some d))[j]?=aj[j]?:=by
 have J:af=fr.set i (some (.val v))/\locked fr i=false:=by
  unfold put at e;unfold locked;split at e
  ·exists e
  ·exists e
  ·exists e
  ·exists e
  .rename_i K L
    k3 k4
   exists e
   refine⟨rfl,?_⟩;cases z:fr[i]? with
   |none=>rfl
   |some o=>
    rcases o with _|s
    .rfl
    .cases s with
     |bor l=>exact absurd z (K l)
     |ro l=>exact absurd z (L l)
     |ob c l=>exact absurd z (k3 c l)
     |oq c l=>exact absurd z (k4 c l)
     |_=>rfl
 obtain⟨rfl,y⟩:=J;have N:∀j,locked (fr.set i (some (.val v))) j=locked fr j:=λj=>by
  by_cases b:i=j
  .subst b;rw[y];unfold locked;by_cases r:i<fr.length
   .rw[WV r];rfl
   .rw[aaO (by simpa using r)]
  .unfold locked;rw[T7 b]
 refine⟨⟨f.wS,f.wM,f.wB,by simp[f.len],λj o p a g=>?_,λj k o A m a g C F G H=>?_⟩,N,λj b=>?_⟩
 .by_cases b:i=j
  .subst b;have r:i<fr.length:=by have:=(gL a).1;simpa using this
   rw[WV r]at a;rw[WV (by rw[<-f.len];exact r)]at g
   exists a;exists g
   exact⟨d,rfl,q⟩
  .rw[T7 b]at a g;exact f.sl j o p a g
 .have I:∀(j:Nat) o,(fr.set i (some (.val v)))[j]?=some o->jA o=true->i≠j:=λj o x P Q=>by
   subst Q;have r:i<fr.length:=by have:=(gL x).1;simpa using this
   rw[WV r]at x
   exists x;exists P
  have n1:=I j o a C;have n2:=I k A g F;rw[T7 n1]at a G;rw[T7 n2]at g H;exact f.inj j k o A m a g C F G H
 .have:i≠j:=λz=>by subst z;rw[y]at b;exists b
  rw[T7 this]
theorem bh.dJ:∀{is:Θ}{vs:T0}{ds:U2}{fr af:Fr}{aj:Ev.Fr},bh M B h S fr aj->dJ is vs fr=some af->az h S vs ds->∃bW,Ev.dJ is ds aj=some bW/\bh M B h S af bW/\(∀j,locked af j=locked fr j)/\∀j,locked fr j=true->bW[j]?=aj[j]?
 |[],[],ds,fr,af,aj,f,e,q=>by
  simp[Pv.dJ]at e;subst e q;exact⟨aj,rfl,f,λ_=>rfl,λ_ _=>rfl⟩
 |[],_ :: _,_,_,_,_,_,e,_=>by simp[Pv.dJ]at e
 |_ :: _,[],_,_,_,_,_,e,_=>by simp[Pv.dJ]at e
 |i :: is,v :: vs,ds,fr,af,aj,f,e,q=>by
  simp only[Pv.dJ,aab]at e;obtain⟨ao,k,p⟩:=e;obtain⟨d,C,rfl,r,x⟩:=q;obtain⟨f2,b,y⟩:=f.set k r;obtain⟨bW,a,f3,z,A⟩:=f2.dJ p x;exact⟨bW,a,f3,λj=>(z j).trans (b j),λj g=>(A j (by rw[b j];exact g)).trans (y j g)⟩
theorem bh.cC(f:bh M B h S fr aj)(e:cC t v fr=some af)(q:Rep h S v d):∃bW,Ev.cC t d aj=some bW/\bh M B h S af bW/\(∀j,locked af j=locked fr j)/\∀j,locked fr j=true->bW[j]?=aj[j]?:=by
 cases t with
 |one i=>exact⟨_,rfl,f.set e q⟩
 |many l=>
  cases v<;>simp only[Pv.cC,reduceCtorEq]at e
  obtain⟨ds,rfl,q⟩:=q;exact f.dJ e q
theorem bh.undef(f:bh M B h S fr aj)(e:undef t fr=true):Ev.undef t aj=true:=by
 unfold Pv.undef at e;unfold Ev.undef;rw[List.all_eq_true]at e ⊢;intro i a;have:=e i a;cases z:fr[i]? with
 |none=>
  have:aj[i]?=none:=by
   rw[ac1]at z ⊢;rw[<-f.len];exact z
  rw[this];rfl
 |some o=>
  obtain⟨p,b,q⟩:=f.get z;rw[z]at this;rcases o with _|s
  .subst q;rw[b];rfl
  .simp at this
def Cy{i:Nat}(e:(iZ fr)[i]?=some o):∃o0,fr[i]?=some o0/\o=o0.map Sl.read:=by
 unfold iZ at e;rw[aaU]at e;cases z:fr[i]? with
 |none=>rw[z]at e;exists e
 |some o0=>rw[z]at e;exists e;exact⟨o0,rfl,rfl⟩
theorem bh.ro(f:bh M B h S fr aj):bh (λ_=>False) B h S (iZ fr) aj:=by
 refine⟨λm y=>⟨(f.wS m y).1,id,(f.wS m y).2.2⟩,λm y=>y.elim,f.wB,by simp[iZ,f.len],λi o p g k=>?_,λi j o x m g k r A C F=>?_⟩
 .obtain⟨e,z,rfl⟩:=Cy g;have q:=f.sl i e p z k;rcases e with _|s
  .exact q
  .cases s with
   |val v=>exact q
   |own l=>obtain⟨m,ds,a,b,c,d⟩:=q;exact⟨m,ds,a,id,c,d⟩
   |bor l=>obtain⟨m,ds,a,b,c,d⟩:=q;exact⟨m,ds,a,id,c,d⟩
   |ro l=>obtain⟨m,ds,a,b,c,d⟩:=q;exact⟨m,ds,a,id,c,d⟩
   |oo c l=>obtain⟨m,ds,a,b,c,d⟩:=q;exact⟨m,ds,a,id,c,d⟩
   |ob c l=>obtain⟨m,ds,a,b,c,d⟩:=q;exact⟨m,ds,a,id,c,d⟩
   |oq c l=>obtain⟨m,ds,a,b,c,d⟩:=q;exact⟨m,ds,a,id,c,d⟩
 .obtain⟨e,z,rfl⟩:=Cy g;rcases e with _|s
  ·exists r
  .cases s <;> exists r
theorem nD:∀{z:List (Nat×U2)},(∀q∈z,bI h q.1=some q.2)->Ev.stays h z=true
 |[],_=>rfl
 | (n,ds) :: r,q=>by
  simp only[Ev.stays,Bg];refine⟨?_,nD λx a=>q x (aaM _ a)⟩;rw[q (n,ds) (aa4 ..)];exact Ev.DG _
def qc(q:bI h n=some ds)(k:h'[n]?=h[n]?):bI h' n=some ds:=by
 unfold bI at q ⊢;rw[k];exact q
def vI(q:bI h n=some ds):n<h.length:=by
 unfold bI at q;cases z:h[n]? with
 |none=>rw[z]at q;exists q
 |some o=>exact(gL z).1
def RZ(h:Hh)(S:Ω):Option V->Option D->Prop
 |none,o=>o=none
 |some v,o=>∃d,o=some d/\Rep h S v d
theorem Cz(Z:∀m,S0 m->m<h0.length)(st:∀q∈ck,bI h0 q.1=some q.2)(turn:∀v o d h S,Al h0 S0 h S->f v=some o->Rep h S v d->∃o' h' S',f' d h=.ok o' h'/\RZ h' S' o o'/\Al h S h' S'):
  ∀{vs:T0} {ds:U2} {rs:T0} {h:Hh} {S:Ω},Al h0 S0 h S->cL f vs=some rs->az h S vs ds->∃rs' h' S',Ev.cL f' ck ds h=.ok rs' h'/\az h' S' rs rs'/\Al h S h' S'
 |[],ds,rs,h,S,a,e,q=>by
  simp[cL]at e;subst e q;refine⟨[],h,S,?_,.nil,.refl⟩;simp only[Ev.cL];rw[OL (nD λx g=>qc (st x g) (a.keep _ (vI (st x g))))]
 |v :: vs,ds,rs,h,S,a,e,q=>by
  simp only[cL,aab]at e;obtain⟨o,y,r,A,C⟩:=e;cases C;obtain⟨d,K,rfl,F,G⟩:=q;have w:∀m,S m->m<h.length:=λm z=>by
   rcases a.new m z with z|z
   .exact WU (Z m z) a.len
   .exact z.2
  obtain⟨o',h1,S1,H,j,b⟩:=turn v o d h S a y F;obtain⟨rs',h2,S2,I,p,k⟩:=Cz Z st turn (a.trans b) A (G.mono (λm z=>b.keep m (w m z)) b.sub);have J:∀m,S1 m->m<h1.length:=λm z=>by
   rcases b.new m z with z|z
   .exact WU (w m z) b.len
   .exact z.2
  refine⟨o'.toList++rs',h2,S2,?_,?_,b.trans k⟩
  .simp only[Ev.cL];rw[OL (nD λx g=>qc (st x g) (a.keep _ (vI (st x g)))),H,Ev.ak,I,Ev.ak]
  .cases o with
   |none=>subst j;simpa using p
   |some L=>
    simp only[RZ]at j;obtain⟨N,rfl,j⟩:=j;exact .cons (j.mono (λm z=>k.keep m (J m z)) k.sub) p
end
def mF(k:Bool)(h:Hh)(S:Ω)(v:T0)(d:U2):Prop:=if k=true then iN h S v d else az h S v d
inductive R0(P':Ev.aJ)(e:E)(k:Bool)(v:V)(M B:Ω)(h:Hh)(S:Ω)(fr:Fr)(aj:Ev.Fr)(af:Fr):Prop
 |mk (d:D) (h':Hh) (S':Ω) (c0:Ev.ev P' e aj h=.ok d h') (c1:ja k h' S' v d) (c2:Out M B (aL e) h S fr aj h' S' af):R0 P' e k v M B h S fr aj af
inductive R1(P':Ev.aJ)(e:E)(b:Bool)(M B:Ω)(h:Hh)(S:Ω)(fr:Fr)(aj:Ev.Fr)(af:Fr):Prop
 |mk (h':Hh) (S':Ω) (c0:Ev.bB P' e aj h=.ok b h') (c1:Out M B (aL e) h S fr aj h' S' af):R1 P' e b M B h S fr aj af
inductive R3(P':Ev.aJ)(e:Es)(k:Bool)(v:T0)(M B:Ω)(h:Hh)(S:Ω)(fr:Fr)(aj:Ev.Fr)(af:Fr):Prop
 |mk (d:U2) (h':Hh) (S':Ω) (c0:Ev.bu P' e aj h=.ok d h') (c1:mF k h' S' v d) (c2:Out M B (dB e) h S fr aj h' S' af):R3 P' e k v M B h S fr aj af
inductive R4(P':Ev.aJ)(e:Es)(v:List (Nat ⊕ V))(M B:Ω)(h:Hh)(S:Ω)(fr:Fr)(aj:Ev.Fr)(af:Fr):Prop
 |mk (d:U2) (h':Hh) (S':Ω) (c0:Ev.bu P' e aj h=.ok d h') (c1:Az h' S' aj v d) (c2:Out M B (dB e) h S fr aj h' S' af):R4 P' e v M B h S fr aj af
inductive R5(P':Ev.aJ)(e:Eo)(v:Option Int)(M B:Ω)(h:Hh)(S:Ω)(fr:Fr)(aj:Ev.Fr)(af:Fr):Prop
 |mk (h':Hh) (S':Ω) (c0:Ev.jy P' e aj h=.ok v h') (c1:Out M B (kq e) h S fr aj h' S' af):R5 P' e v M B h S fr aj af
inductive R6(P':Ev.aJ)(e:Eo)(v:Bool)(M B:Ω)(h:Hh)(S:Ω)(fr:Fr)(aj:Ev.Fr)(af:Fr):Prop
 |mk (h':Hh) (S':Ω) (c0:Ev.lM P' e aj h=.ok v h') (c1:Out M B (kq e) h S fr aj h' S' af):R6 P' e v M B h S fr aj af
inductive R7(P':Ev.aJ)(e:It)(k:Bool)(v:T0)(M B:Ω)(h:Hh)(S:Ω)(fr:Fr)(aj:Ev.Fr)(af:Fr):Prop
 |mk (s:Ev.Src) (h':Hh) (S':Ω) (c0:Ev.fc P' e aj h=.ok s h') (c1:az h' S' v s.1) (c2:∀q∈s.2,bI h' q.1=some q.2/\(k=false->¬ M q.1)) (c3:Out M B (Ao e) h S fr aj h' S' af):R7 P' e k v M B h S fr aj af
section
variable(P:aJ)(P':Ev.aJ)
def bD(e:E):Prop:=∀{k:Bool} {fr:Fr} {v:V} {af:Fr} {M B:Ω} {h:Hh} {S:Ω} {aj:Ev.Fr},ev P k e fr=.ok v af->bh M B h S fr aj->R0 P' e k v M B h S fr aj af
def jP(e:E):Prop:=∀{fr:Fr} {b:Bool} {af:Fr} {M B:Ω} {h:Hh} {S:Ω} {aj:Ev.Fr},bB P e fr=.ok b af->bh M B h S fr aj->R1 P' e b M B h S fr aj af
def kB(e:Es):Prop:=∀{k:Bool} {fr:Fr} {v:T0} {af:Fr} {M B:Ω} {h:Hh} {S:Ω} {aj:Ev.Fr},bu P k e fr=.ok v af->bh M B h S fr aj->R3 P' e k v M B h S fr aj af
def tE(e:Es):Prop:=∀{fr:Fr} {v:List (Nat ⊕ V)} {af:Fr} {M B:Ω} {h:Hh} {S:Ω} {aj:Ev.Fr},eW P e fr=.ok v af->bh M B h S fr aj->R4 P' e v M B h S fr aj af
def vJ(e:Eo):Prop:=∀{fr:Fr} {v:Option Int} {af:Fr} {M B:Ω} {h:Hh} {S:Ω} {aj:Ev.Fr},jy P e fr=.ok v af->bh M B h S fr aj->R5 P' e v M B h S fr aj af
def zp(e:Eo):Prop:=∀{fr:Fr} {v:Bool} {af:Fr} {M B:Ω} {h:Hh} {S:Ω} {aj:Ev.Fr},lM P e fr=.ok v af->bh M B h S fr aj->R6 P' e v M B h S fr aj af
def tF(e:It):Prop:=∀{k:Bool} {fr:Fr} {v:T0} {af:Fr} {M B:Ω} {h:Hh} {S:Ω} {aj:Ev.Fr},fc P k e fr=.ok v af->bh M B h S fr aj->R7 P' e k v M B h S fr aj af
end
section
variable{P:aJ}{P':Ev.aJ}{a b e tt:E}{es:Es}{lo hi:Eo}{it:It}
def R8:bD P P' (.c d):=λz f=>by
 simp only[ev]at z;replace z:=aH z;obtain⟨z,g⟩:=z;subst g;exact⟨d,_,_,by simp only[Ev.ev],.of (pF z),.refl f⟩
def R9:bD P P' (.v i):=λz f=>by
 simp only[ev]at z;replace z:=aH z;obtain⟨z,c⟩:=z;subst c;obtain⟨d,g,q⟩:=NL z f;exact⟨d,_,_,by simp only[Ev.ev,g,Ev.bS],q,.refl f⟩
def mF.n{S:Ω}(q:mF false h S v d):az h S v d:=by simpa[mF]using q
theorem az.tl{S:Ω}:∀{v:T0}{d:U2},az h S v d->iN h S v d
 |[],_,q=>q
 |_ :: _,_,⟨d,es,a,b,q⟩=>⟨d,es,a,b.top,q.tl⟩
def mF.t{S:Ω}(q:mF k h S v d):iN h S v d:=by
 unfold mF at q;split at q
 .exact q
 .exact q.tl
def GL(is:kB P P' es):bD P P' (.tup es):=λz f=>by
 simp only[ev]at z;obtain⟨ds,p,g,c⟩:=ah z;replace c:=aH c;obtain⟨c,r⟩:=c;obtain⟨d,h,S',j,q,o⟩:=is g f;unfold ny at c;split at c
 .rename_i k
  exists c
  refine⟨.tup d,h,S',?_,.of ⟨d,rfl,q.n⟩,o⟩;simp only[Ev.ev,j,Ev.ak];rw[OL (by rw[<-q.n.length];exact k)]
 ·exists c
def GN(is:kB P P' es):bD P P' (.lst es):=λz f=>by
 simp only[ev]at z;obtain⟨ds,A,d,c⟩:=ah z;replace c:=aH c;obtain⟨c,g⟩:=c;subst g;obtain⟨h,B,S',j,q,o⟩:=is d f;obtain⟨r,k,S2,p,x,y⟩:=ku o.f.w c q.n;exact⟨r,k,S2,by simp only[Ev.ev,j,Ev.ak,p],.of x,o.al y⟩
def tG(e:Ev.ev P' a aj h=.ok d h1):∀i,a=.v i->aj[i]?.join=some d:=λi hi=>by
 subst hi;simp only[Ev.ev]at e;exact(Ev.aH e).1
def two(I:bD P P' a)(Z:bD P P' b){α:Type}{X:V->V->Fr->R α}{u:α}{S:Ω}(z:((ev P (kf a (aL b)) a fr).bind λx af=>(ev P true b af).bind λy ao=>X x y ao)=.ok u bY)(f:bh M B h S fr aj):
  ∃x y d e h2 S2 ao,(∀{β:Type} (g:D->D->Hh->Ev.R β),((Ev.ev P' a aj h).bind λx h1=>(Ev.ev P' b aj h1).bind λy h2=>g x y h2)=g d e h2)/\X x y ao=.ok u bY/\cQ h2 S2 x d/\cQ h2 S2 y e/\Out M B (aL a++aL b) h S fr aj h2 S2 ao:=by
 obtain⟨x,af,p,z⟩:=ah z;obtain⟨y,ao,q,z⟩:=ah z;obtain⟨d,h1,S1,j,r,c⟩:=I p f;obtain⟨e,h2,S2,A,C,k⟩:=Z q c.f;exact⟨x,y,d,e,h2,S2,ao,λg=>by rw[j,Ev.ak,A,Ev.ak],z,(r.tr c.f k.tr id (tG j)).t,C.t,c.trans k⟩
def GO(I:bD P P' a)(Z:bD P P' b):bD P P' (.bin o a b):=λz f=>by
 simp only[ev]at z;replace z:=two I Z z f;obtain⟨x,y,d,e,B,S2,C,k,z,c,g,ou⟩:=z;replace z:=aH z;obtain⟨z,h⟩:=z;subst h;obtain⟨r,j,S3,p,q,A⟩:=RM ou.f.w z c g;exact⟨r,j,S3,by simp only[Ev.ev];rw[k];exact p,.of q,ou.al A⟩
def GP(I:bD P P' a)(Z:bD P P' b):bD P P' (.cmp o a b):=λz f=>by
 simp only[ev]at z;replace z:=two I Z z f;obtain⟨x,y,d,e,c,S2,p,k,z,g,h,ou⟩:=z;replace z:=aH z;obtain⟨z,j⟩:=z;subst j;simp only[ZJ]at z;obtain⟨b,z,rfl⟩:=z;exact⟨.bl b,c,S2,by simp only[Ev.ev];rw[k,Ax z g.u h.u];rfl,.of rfl,ou⟩
def LN(I:bD P P' a)(Z:bD P P' b):bD P P' (.ix a b):=λz f=>by
 simp only[ev]at z;replace z:=two I Z z f;obtain⟨x,y,d,e,c,S2,A,k,z,g,h,ou⟩:=z;replace z:=aH z;obtain⟨z,j⟩:=z;subst j;obtain⟨r,p,q⟩:=RN z g h;exact⟨r,c,S2,by simp only[Ev.ev];rw[k,p];rfl,.of q,ou⟩
def LO(ia:bD P P' a)(ib:bD P P' b)(ic:bD P P' c):bD P P' (.ch o p a b c):=λz f=>by
 simp only[ev]at z;replace z:=ah z;obtain⟨x,Y,H,z⟩:=z;replace z:=ah z;obtain⟨y,Z,I,z⟩:=z;replace z:=ah z;obtain⟨k,cB,h,z⟩:=z;replace h:=aH h;obtain⟨h,r⟩:=h;subst r;obtain⟨d,h1,S1,A,J,q⟩:=ia H f;obtain⟨e,K,S2,B,C,j⟩:=ib I q.f;have CA:=(J.tr q.f j.tr id (tG A)).t;have F:=Ax h CA.u C.t.u;cases k with
 |false=>
  exists z
  refine⟨.bl false,K,S2,by simp only[Ev.ev,A,Ev.ak,B,F,Ev.bS];rfl,.of rfl,?_⟩;exact(q.trans j).weak (by simp only[nB];intro i hi;simp at hi ⊢;rcases hi with hi|hi<;>simp[hi])
 |true=>
  replace z:=ah z;obtain⟨y2,jz,L,z⟩:=z;replace z:=aH z;obtain⟨z,r⟩:=z;subst r;obtain⟨g,M,S3,N,Q,G⟩:=ic L j.f;simp only[ZJ]at z;obtain⟨W,z,rfl⟩:=z;have X:=Ax z (C.tr j.f G.tr id (tG B)).t.u Q.t.u;exact⟨.bl W,M,S3,by simp only[Ev.ev,A,Ev.ak,B,F,Ev.bS,aa0,N,X];rfl,.of rfl,q.trans (j.trans G)⟩
def Vw(I:bD P P' a):bD P P' (.nt a):=λz f=>by
 simp only[ev]at z;replace z:=ah z;obtain⟨x,p,c,z⟩:=z;obtain⟨d,g,S1,h,j,k⟩:=I c f;cases x<;>simp only[reduceCtorEq]at z
 cases z;have q:=j.t;subst q;exact⟨_,g,S1,by simp only[Ev.ev,h,Ev.ak],.of rfl,k⟩
def GQ(I:bD P P' a):bD P P' (.neg a):=λz f=>by
 simp only[ev]at z;replace z:=ah z;obtain⟨x,p,c,z⟩:=z;obtain⟨d,g,S1,h,j,k⟩:=I c f;cases x<;>simp only[reduceCtorEq]at z
 cases z;have q:=j.t;subst q;exact⟨_,g,S1,by simp only[Ev.ev,h,Ev.ak],.of rfl,k⟩
def Vx(I:bD P P' a)(Z:bD P P' b):bD P P' (.an a b):=λz f=>by
 simp only[ev]at z;replace z:=ah z;obtain⟨x,C,h,z⟩:=z;obtain⟨d,j,S1,g,p,c⟩:=I h f;cases x<;>try (exists z;done)
 rename_i k;have q:=p.t;subst q;cases k with
 |true=>
  try simp only at z
  obtain⟨d,r,S2,y,A,B⟩:=Z z c.f;exact⟨d,r,S2,by simp only[Ev.ev,g,Ev.ak,y],A,c.trans B⟩
 |false=>
  try simp only at z
  exists z
  exact⟨_,j,S1,by simp only[Ev.ev,g,Ev.ak],.of rfl,c.weak (by simp only[nB];intro i hi;simp[hi])⟩
def Sa(I:bD P P' a)(Z:bD P P' b):bD P P' (.orr a b):=λz f=>by
 simp only[ev]at z;replace z:=ah z;obtain⟨x,C,h,z⟩:=z;obtain⟨d,j,S1,g,p,c⟩:=I h f;cases x<;>try (exists z;done)
 rename_i k;have q:=p.t;subst q;cases k with
 |false=>
  try simp only at z
  obtain⟨d,r,S2,y,A,B⟩:=Z z c.f;exact⟨d,r,S2,by simp only[Ev.ev,g,Ev.ak,y],A,c.trans B⟩
 |true=>
  try simp only at z
  exists z
  exact⟨_,j,S1,by simp only[Ev.ev,g,Ev.ak],.of rfl,c.weak (by simp only[nB];intro i hi;simp[hi])⟩
def GR(it:jP P P' tt)(I:bD P P' a)(Z:bD P P' b):bD P P' (.fV tt a b):=λz f=>by
 simp only[ev]at z;replace z:=ah z;obtain⟨k,x,r,z⟩:=z;obtain⟨y,S1,q,c⟩:=it r f;cases k with
 |true=>
  obtain⟨d,g,S2,h,j,p⟩:=I z c.f;exact⟨d,g,S2,by simp only[Ev.ev,q,Ev.ak,aa0,h],j,(c.trans p).weak (by simp only[nB];intro i hi;simp at hi ⊢;rcases hi with hi|hi<;>simp[hi])⟩
 |false=>
  obtain⟨d,g,S2,h,j,p⟩:=Z z c.f;exact⟨d,g,S2,by simp only[Ev.ev,q,Ev.ak];exact h,j,(c.trans p).weak (by simp only[nB];intro i hi;simp at hi ⊢;rcases hi with hi|hi<;>simp[hi])⟩
def LP(Z:bD P P' a)(il:vJ P P' lo)(ih:vJ P P' hi):bD P P' (.sl a lo hi):=λz f=>by
 simp only[ev]at z;replace z:=ah z;obtain⟨x,K,k,z⟩:=z;replace z:=ah z;obtain⟨l,L,p,z⟩:=z;replace z:=ah z;obtain⟨u,M,y,z⟩:=z;replace z:=aH z;obtain⟨z,A⟩:=z;subst A;obtain⟨d,N,S1,j,B,c⟩:=Z k f;obtain⟨Q,S2,C,g⟩:=il p c.f;obtain⟨W,S3,F,h⟩:=ih y g.f;have q:=(B.tr c.f (g.trans h).tr id (tG j)).t;obtain⟨r,G,S4,H,I,J⟩:=RP h.f.w z q;exact⟨r,G,S4,by simp only[Ev.ev,j,Ev.ak,C,F,H],.of I,(c.trans (g.trans h)).al J⟩
theorem oh:∀{es:Es}{fr af:Fr}{as:List (Nat ⊕ V)},eW P es fr=.ok as af->∀i∈bC as,i∈fN es
 |.nil,_,_,_,z=>by simp only[eW]at z;cases z;simp[bC]
 |.cons e es,fr,af,as,z=>by
  simp only[eW]at z;cases y:jK fr e with
  |some i=>
   rw[y]at z;replace z:=ah z;obtain⟨xs,f,d,z⟩:=z;cases z;have g:e=.v i:=by
    cases e<;>simp only[jK,reduceCtorEq]at y
    split at y
    .cases y;rfl
    .cases y
   subst g;intro j c;simp only[bC,adD]at c;simp only[fN,adD];exact c.imp id λc=>oh d j c
  |none=>
   rw[y]at z;replace z:=ah z;obtain⟨x,h,k,z⟩:=z;replace z:=ah z;obtain⟨xs,f,d,z⟩:=z;cases z;intro j c;have:=oh d j c;cases e<;>simp only[fN]<;>first|exact this|exact aaM _ this
def LQ(I:qa P P')(is:tE P P' es):bD P P' (.cl g es):=λz f=>by
 simp only[ev]at z;replace z:=ah z;obtain⟨y,A,c,z⟩:=z;obtain⟨ds,B,S1,j,k,h⟩:=is c f;obtain⟨d,p,S2,q,r,x⟩:=nA I z h.f k;exact⟨d,p,S2,by simp only[Ev.ev,j,Ev.ak,q],.of r,(h.trans x).weak (by
  intro i hi;rcases k8 hi with hi|hi
  .exact List.mem_append.mpr (.inl hi)
  .exact List.mem_append.mpr (.inr (oh c i hi)))⟩
def LR(is:kB P P' es):bD P P' (.bi g es):=λz f=>by
 simp only[ev]at z;replace z:=ah z;obtain⟨A,B,d,z⟩:=z;replace z:=aH z;obtain⟨z,h⟩:=z;subst h;obtain⟨ds,C,S1,j,k,c⟩:=is d f;obtain⟨r,p,S4,q,x,y⟩:=RT c.f.w z k.t;exact⟨r,p,S4,by simp only[Ev.ev,j,Ev.ak,q],.of x,c.al y⟩
def GS(I:bD P P' a):bD P P' (.kh a):=λz f=>by
 simp only[ev]at z;replace z:=ah z;obtain⟨x,A,c,z⟩:=z;replace z:=aH z;obtain⟨z,g⟩:=z;subst g;obtain⟨d,h,S1,j,k,p⟩:=I c f;obtain⟨r,q,y⟩:=RQ z k.t;exact⟨r,h,S1,by simp only[Ev.ev,j,Ev.ak,q],.of y,p⟩
def LS(io:bD P P' o)(is:kB P P' es):bD P P' (.me m o es):=λ{k fr v af M B h S aj} z f=>by
  simp only[ev]at z;by_cases H:ly m=true
  . rw[OL H]at z;cases y:jK fr o with
    |none=>rw[y]at z;exists z
    |some i=>
    rw[y]at z;try simp only at z
    replace z:=ah z;obtain⟨as,ao,z1,z⟩:=z;have hy:o=.v i/\∃s,lent fr i=some s:=by
      cases o<;>simp only[jK,reduceCtorEq]at y
      rename_i j;split at y
      . rename_i hs
        exists y
        exact⟨rfl,gN hs⟩
      · exists y
    obtain⟨rfl,s,hs⟩:=hy;obtain⟨n,Y,_,_,_,I,J,_,_⟩:=kN hs f;obtain⟨ds,Q,S1,W,N,c⟩:=is z1 f;replace J:∃Y,h[n]?=some (.lst Y):=by
      cases s<;>first
        |exact⟨Y,J⟩
        | (exfalso
           have F:=c.tr.cls n (gL J).1;rw[J]at F;split at z
           . rename_i q;obtain⟨p,A,G,g,rfl,_,C,K⟩:=c.f.get q;rw[I]at A;cases A;rw[C]at F;exists F
           . rename_i q;obtain⟨p,A,G,g,rfl,_,C,K⟩:=c.f.get q;rw[I]at A;cases A;rw[C]at F;exists F
           · exists z)
    obtain⟨Y,J⟩:=J;have Z:Ev.BU m (.ref n) h=true:=by cases m<;>simp[ly]at H<;>simp[Ev.BU,kM J]
    have hap:GH m=false->az Q S1 as ds:=λhh=>by rw[hh]at N;exact N.n
    have fin:∀s l l',ao[i]?=some (some s)->jA (some s)=true->(∀ds,oO s ds=.lst ds)->(∃G g,aj[i]?=some (some (.ref G))/\Q[G]?=some (.lst g)/\az Q S1 l g)->nY m l as=some (v,l')->af=ao.set i (some (s.with l'))->
        R0 P' (.me m (.v i) es) k v M B h S fr aj af:=by
      intro s l l' q A k0 ⟨G,g,k3,C,K⟩ X k7;rw[I]at k3;cases k3;have mn:=c.f.mM q A I;obtain⟨r,ds',a1,a2,a3⟩:=RY X C K N.t hap λk z y=>(c.f.wS k z).2.1 (y▸mn);have fw:=c.f.write (l':=l') q A I a3;subst k7;refine⟨r,_,S1,?_,.of (a2.mono (λm z=>gP λy=>(c.f.wS m z).2.1 (y▸mn)) λ_ z=>z),fw,?_,λj=>?_⟩
      . simp only[Ev.ev,I,Option.join,Ev.bS,Ev.ak,Z,aa0,W];simp only[Option.bind,id,Ev.bS,Ev.ak,Z,aa0,W];rw[k0];exact a1
      . refine⟨by simpa using c.tr.len,λm F y2=>?_,c.tr.sub,λm y=>by simpa using c.tr.new m y
          ,?_
          ⟩
        rotate_left
        . intro m F;rw[<-c.tr.cls m F];by_cases H:n=m
          . subst H;rw[WV (gL C).1,C,k0];rfl
          . rw[gP H]
        have y3:¬ Xs M aj (dB es) m:=λz=>y2 (Xs.mono (by simp only[nB];intro i hi;simp[hi]) z);have y4:m≠n:=λz=>y2 ⟨z▸mn,i,by simp[nB,LM,H],by rw[z];exact I⟩;rw[gP (λ(z:n=m)=>y4 z.symm)];exact c.tr.keep m F y3
      . rw[<-c.lk j];unfold locked;by_cases hj:i=j
        . subst hj;rw[WV (gL q).1,q];exact xA
        . rw[T7 hj]
    split at z
    . rename_i l q;have L:=c.f.get q;obtain⟨p,A,G,g,rfl,_,C,K⟩:=L;split at z
      . rename_i v' l' X
        exists z
        exact fin _ l l' q rfl (λ_=>rfl) ⟨G,g,A,C,K⟩ X rfl
      · exists z
    . rename_i l q;have L:=c.f.get q;obtain⟨p,A,G,g,rfl,_,C,K⟩:=L;split at z
      . rename_i v' l' X
        exists z
        exact fin _ l l' q rfl (λ_=>rfl) ⟨G,g,A,C,K⟩ X rfl
      · exists z
    · exists z
  . rw[aaH H]at z;replace z:=ah z;obtain⟨x,ao,z1,z⟩:=z;replace z:=ah z;obtain⟨as,cB,z2,z⟩:=z;replace z:=aH z;obtain⟨z,y0⟩:=z;subst y0;obtain⟨d,Q,S1,W,N,c⟩:=io z1 f;obtain⟨ds,h2,S2,e2,q2,o2⟩:=is z2 c.f;have hm':ly m=false:=by simpa using H
    have CA:=(N.tr c.f o2.tr id (tG W)).t;obtain⟨a1,r,a2,a3⟩:=RU z hm' CA q2.t;have Z:Ev.BU m d Q=true:=by
      unfold gM at z;split at z
      . have:=N.t;simp only[cQ,Rep]at this;subst this;rfl
      · exists z
    exact⟨r,h2,S2,by simp only[Ev.ev,W,Ev.ak,Z,aa0,e2,a2],.of a3,(c.trans o2).weak (by simp only[nB];intro i hi;simp at hi ⊢;rcases hi with hi|hi<;>simp[hi])⟩
def rT{i:Nat}{S:Ω}(e:lN c fr[i]?=some l)(f:bh M B h S fr aj):∃n ds,Ev.jI c h aj[i]?.join=some (n,ds)/\az h S l ds:=by
 have g:∀d,d=c->∀n ds,h[n]?=some (.obj d ds)->Ev.jI c h (some (.ref n))=some (n,ds):=λd e n ds q=>by subst e;simp[Ev.jI,q]
 unfold lN at e;split at e
 case h_4=>exists e
 all_goals
  rename_i d r z;split at e
  case isFalse=>exists e
  rename_i j;cases e;obtain⟨p,k,n,ds,rfl,_,y,q⟩:=f.get z;exact⟨n,ds,by rw[k];exact g _ j n ds y,q⟩
def vK{i:Nat}{S:Ω}(e:uh c fr[i]?=some (s,l))(f:bh M B h S fr aj):
  fr[i]?=some (some s)/\jA (some s)=true/\(∀ds,oO s ds=.obj c ds)/\∃n ds,aj[i]?=some (some (.ref n))/\Ev.jI c h aj[i]?.join=some (n,ds)/\az h S l ds:=by
 unfold uh at e;split at e
 case h_3=>exists e
 all_goals
  rename_i j k z;split at e
  case isFalse=>exists e
  rename_i g;subst g;cases e;obtain⟨p,d,n,ds,rfl,_,y,q⟩:=f.get z;exact⟨z,rfl,λ_=>rfl,n,ds,d,by rw[d];simp[Ev.jI,y],q⟩
def vL{l xs:T0}{S:Ω}(e:qM c l k=some xs)(q:az h S l ds):∃es,Ev.o8 c ds k=some es/\az h S xs es:=by
 unfold qM at e;split at e
 case isFalse=>exists e
 rename_i f;split at e
 .rename_i z
  exists e
  obtain⟨d,y,p⟩:=q.get z;obtain⟨es,rfl,p⟩:=p;exact⟨es,by unfold Ev.o8;rw[OL f,y],p⟩
 ·exists e
def Sb{xs as:T0}{es ds:U2}{S:Ω}(w:∀m,S m->m<h.length)(z:rQ o xs as=some v)(q:az h S xs es)(p:iN h S as ds):∃r h' S',Ev.Fw o es ds h=.ok r h'/\Rep h' S' v r/\Al h S h' S':=by
 unfold rQ at z;split at z
 ·exists z;exact⟨_,_,S,rfl,by simp[Rep,q.length],.refl⟩
 ·exists z;exact⟨_,_,S,rfl,by simp[Rep,q.emp],.refl⟩
 .subst p;exact ku w z q
 .obtain⟨d,rfl,c⟩:=p.one;subst c;obtain⟨r,a,b⟩:=zo z q;exact⟨r,h,S,by simp only[Ev.Fw,a,Ev.bS],b,.refl⟩
 .obtain⟨d,rfl,c⟩:=p.one;subst c;exact ku w z (q.cut _ _)
 ·exists z
def Sd{xs as I:T0}{es ds:U2}{S:Ω}(z:GI o xs as=some (v,I))(q:az h S xs es)(p:az h S as ds):∃r es',Ev.Fx o es ds=some (r,es')/\Rep h S v r/\az h S I es':=by
 unfold GI at z;split at z
 .obtain⟨d,_,rfl,c,rfl⟩:=p;split at z
  .rename_i k;cases z;exact⟨.aN,es++[d],by simp only[Ev.Fx];rw[OL (by rw[<-q.length];exact k)],rfl,q.append (.cons c .nil)⟩
  ·exists z
 .subst p;split at z
  .rename_i x y;cases z;obtain⟨d,f,g⟩:=q.get y;exact⟨d,es.dropLast,by simp only[Ev.Fx];rw[<-q.length,f],g,q.dropLast⟩
  ·exists z
 ·exists z
def Se{S:Ω}(e:Ar c l k j=some l')(q:az h S l ds):∃ds',Ev.KR c ds k j=some ds'/\az h S l' ds':=by
 obtain⟨xs,p,e⟩:=kA e;obtain⟨G,r,e⟩:=kA e;obtain⟨H,x,g⟩:=vL p q;obtain⟨I,A,f⟩:=vL r q;split at e
 .rename_i y z;split at e
  .rename_i B
   exists e
   obtain⟨d,C,F⟩:=f.get z;refine⟨_,by unfold Ev.KR;rw[x,A];simp only[Option.bind];rw[<-f.length,C];simp only;rw[OL (by rw[<-g.length];exact B)],?_⟩;exact(q.set _ (show Rep h S (.tup _) (.tup _)from ⟨_,rfl,f.dropLast⟩)).set _ (show Rep h S (.tup _) (.tup _)from ⟨_,rfl,g.append (.cons F .nil)⟩)
  ·exists e
 ·exists e
def qe{S S1:Ω}(Z:Out M B t h S fr aj h1 S1 ao)(k1:ao[i]?=some (some s))(k2:jA (some s)=true)(k0:∀ds,oO s ds=.obj c ds)(w2:aj[i]?=some (some (.ref n)))(q:az h1 S1 l' ds'):(∀v d,Rep h1 S1 v d->Rep (h1.set n (.obj c ds')) S1 v d)/\Out M B (t++[i]) h S fr aj (h1.set n (.obj c ds')) S1 (ao.set i (some (s.with l'))):=by
 have r:=Z.f.mM k1 k2 w2;refine⟨λv d z=>z.mono (λm z=>gP λy=>(Z.f.wS m z).2.1 (y▸r)) λ_ z=>z,by rw[<-k0];exact Z.f.write k1 k2 w2 q,?_,λj=>?_⟩
 .refine⟨by simpa using Z.tr.len,λm k x=>?_,Z.tr.sub,λm y=>by simpa using Z.tr.new m y,λm k=>?_⟩
  rotate_left
  .rw[<-Z.tr.cls m k];by_cases A:n=m
   .subst A;obtain⟨p,C,G⟩:=Z.f.get k1;rw[w2]at C;exists C;have:∃CB,h1[n]?=some (oO s CB):=by
     cases s<;>first | (exists k2;done) | (obtain⟨I,CB,e,_,y,_⟩:=G;cases e;exact⟨CB,y⟩)
    obtain⟨CB,g⟩:=this;rw[WV (gL g).1,g,k0];rfl
   .rw[gP A]
  have g:¬ Xs M aj t m:=λz=>x (Xs.mono (by intro i hi;simp[hi]) z);have H:m≠n:=λz=>x ⟨z▸r,i,by simp,by rw[z];exact w2⟩;rw[gP (λz=>H z.symm)];exact Z.tr.keep m k g
 .rw[<-Z.lk j];unfold locked;by_cases F:i=j
  .subst F;rw[WV (gL k1).1,k1];exact xA
  .rw[T7 F]
def GU:bD P P' (.fld c i k):=λz f=>by
 simp only[ev]at z;split at z
 .rename_i l g;split at z
  .rename_i h;replace z:=aH z;obtain⟨z,j⟩:=z;subst j;obtain⟨n,ds,a,q⟩:=rT g f;obtain⟨d,p,r⟩:=q.get z;exact⟨d,_,_,by simp only[Ev.ev,a];rw[OL h,p];rfl,.of r,.refl f⟩
  ·exists z
 ·exists z
def LU(is:kB P P' es):bD P P' (.fu c o i k es):=λz f=>by
 simp only[ev]at z;split at z
 case isFalse=>exists z
 rename_i d;obtain⟨L,d⟩:=gN d;obtain⟨n0,Cs,h,_⟩:=rT d f;replace z:=ah z;obtain⟨M,N,j,z⟩:=z;obtain⟨ds,Q,S1,p,x,g⟩:=is j f;split at z
 .rename_i l y;replace z:=aH z;obtain⟨z,A⟩:=z;subst A;obtain⟨xs,B,z⟩:=kA z;obtain⟨n,W,a,q⟩:=rT y g.f;obtain⟨C,F,G⟩:=vL B q;obtain⟨r,H,S4,I,J,K⟩:=Sb g.f.w z G x.t;exact⟨r,H,S4,by simp only[Ev.ev,h,abP,aa0,p,Ev.ak,a,F,Ev.bS,I],.of J,g.al K⟩
 ·exists z
def LV(is:kB P P' es):bD P P' (.fm c o i k es):=λz f=>by
 simp only[ev]at z;split at z
 case isFalse=>exists z
 rename_i g;obtain⟨l0,g⟩:=gN g;obtain⟨n0,Cs,x,_⟩:=rT g f;replace z:=ah z;obtain⟨as,af,y,z⟩:=z;obtain⟨ds,A,S1,B,C,j⟩:=is y f;split at z
 .rename_i s l F;replace z:=ah z;obtain⟨p,cB,d,z⟩:=z;replace d:=aH d;obtain⟨d,y0⟩:=d;obtain⟨xs,G,H⟩:=kA d
  exists z
  obtain⟨I,J,K,n,cs,L,a,q⟩:=vK F j.f;obtain⟨M,N,Q⟩:=vL G q;obtain⟨r,h,W,X,Y⟩:=Sd H Q C.n;obtain⟨Z,g2⟩:=qe j I J K L (q.set k (show Rep A S1 (.tup p.2) (.tup h)from ⟨_,rfl,Y⟩));refine⟨r,_,S1,?_,.of (Z _ _ X),by exact g2⟩;simp only[Ev.ev,x,abP,aa0,B,Ev.ak,a,N,Option.bind,W,Ev.bS]
 ·exists z
def LW:bD P P' (.mv c i k j):=λ{kk fr v af M B h S aj} z f=>by
 simp only[ev]at z;split at z
 .rename_i s l r;replace z:=ah z;obtain⟨p,I,d,z⟩:=z;replace d:=aH d;obtain⟨d,J⟩:=d;exists z;obtain⟨x,y,A,n,K,C,a,q⟩:=vK r f;obtain⟨g,F,G⟩:=Se d q;obtain⟨L,H⟩:=qe (Out.refl (c:=[]) f) x y A C G;exact⟨.aN,h.set n (.obj c g),S,by simp only[Ev.ev,a,F,Ev.bS,Ev.ak],.of rfl,by exact H⟩
 ·exists z
def CC{S:Ω}(e:As c fr es=true)(f:bh M B h S fr aj):Ev.ri c aj h es=true:=by
 cases es with
 |nil=>exists e
 |cons a r=>
  cases a<;>simp only[As,abB]at e
  obtain⟨j,d⟩:=gN e;obtain⟨n0,Cs,g,_⟩:=rT d f;simp only[Ev.ri,g,abP]
def GV(I:qa P P')(is:tE P P' es):bD P P' (.fq c g es):=λz f=>by
 simp only[ev]at z;split at z
 case isFalse=>exists z
 rename_i k;replace z:=ah z;obtain⟨B,C,h,z⟩:=z;obtain⟨ds,F,S1,p,q,j⟩:=is h f;obtain⟨d,r,S2,x,y,A⟩:=nA I z j.f q;exact⟨d,r,S2,by simp only[Ev.ev,CC k f,aa0,p,Ev.ak,x],.of y,(j.trans A).weak (by
  intro i hi;rcases k8 hi with hi|hi
  .exact List.mem_append.mpr (.inl hi)
  .exact List.mem_append.mpr (.inr (oh h i hi)))⟩
def AB{cond:Eo}(ii:tF P P' it)(ic:zp P P' cond)(ie:bD P P' elt):bD P P' (.comp elt t it cond):=λz f=>by
 simp only[ev]at z;replace z:=ah z;obtain⟨vs,C,K,z⟩:=z;split at z
 case isFalse=>exists z
 rename_i L;replace z:=aH z;obtain⟨z,M⟩:=z;subst M;simp only[aab]at z;obtain⟨rs,N,Q⟩:=z;obtain⟨s,h1,S1,W,X,Y,g⟩:=ii K f;have F:=g.f.ro;obtain⟨Z,p,S2,A,c2,G⟩:=Cz (f':=λd p=>match Ev.cC t d _ with
    |none=>.bad
    |some C=>(Ev.lM P' cond C p).bind λk B=>if k then (Ev.ev P' elt C B).bind λx j=>.ok (some x) j else .ok none B) g.f.w (λq hq=>(Y q hq).1) (λv o d h S al y q=>by
  split at y
  ·exists y
  .rename_i cB y1;obtain⟨l8,b1,H,_,_⟩:=(F.al al).cC y1 q;rw[b1];split at y
   .rename_i c jz y2;obtain⟨B,S3,A,oc⟩:=ic y2 H;have Sf:=oc.tr.al λm z=>z.1;split at y
    .rename_i I;split at y
     .rename_i x u9 y3
      exists y
      obtain⟨J,j,S4,d1,d2,od⟩:=ie y3 (H.al Sf);refine⟨some J,j,S4,?_,⟨J,rfl,d2.n⟩,Sf.trans (od.tr.al λm z=>z.1)⟩;simp only[A,Ev.ak,aa0,d1]
     ·exists y
    .rename_i I
     exists y
     refine⟨none,B,S3,?_,rfl,Sf⟩;simp only[A,Ev.ak];rw[aaH I]
   ·exists y) Al.refl N X
 obtain⟨r,j,S4,a1,a2,a3⟩:=ku (g.f.al G).w Q c2;refine⟨r,j,S4,?_,.of a2,(g.al G).al a3⟩;simp only[Ev.ev,W,Ev.ak];rw[OL (g.f.undef L)];refine Eq.trans (aaL (λq:Ev.R (U2)=>q.bind λds p=>Ev.alloc ds p) A) ?_;simp only[Ev.ak,a1]
def GW(I:tF P P' it):bD P P' (.jx it):=λz f=>by
 simp only[ev]at z;replace z:=ah z;obtain⟨y,A,d,z⟩:=z;replace z:=aH z;obtain⟨z,g⟩:=z;subst g;obtain⟨s,B,S1,h,j,C,c⟩:=I d f;obtain⟨r,k,S4,p,q,x⟩:=ku c.f.w z j;exact⟨r,k,S4,by simp only[Ev.ev,h,Ev.ak,p],.of q,c.al x⟩
def Sg:kB P P' .nil:=λ{k fr v af M B h S aj} z f=>by
 simp only[bu]at z
 exists z
 refine⟨[],_,_,by simp only[Ev.bu],?_,.refl f⟩;unfold mF;split<;>rfl
def NN(I:bD P P' e)(is:kB P P' es):kB P P' (.cons e es):=λ{k fr v af M B h S aj} z f=>by
 simp only[bu]at z;replace z:=ah z;obtain⟨x,F,q,z⟩:=z;replace z:=ah z;obtain⟨xs,G,r,z⟩:=z
 exists z
 obtain⟨d,H,S1,j,y,c⟩:=I q f;obtain⟨ds,A,S2,C,g,p⟩:=is r c.f;have CA:=y.tr c.f p.tr (by intro z;simp at z;exact z.2) (tG j);refine⟨d :: ds,A,S2,by simp only[Ev.bu,j,Ev.ak,C],?_,c.trans p⟩;unfold mF at g ⊢;cases k with
 |true=>exact⟨d,ds,rfl,CA.t,g⟩
 |false=>
  exact .cons (by simpa[ja]using CA) g
def NO:tE P P' .nil:=λz f=>by
 simp only[eW]at z
 exists z
 exact⟨[],_,_,by simp only[Ev.bu],rfl,.refl f⟩
def Ju(Z:bD P P' e)(is:tE P P' es):tE P P' (.cons e es):=λ{fr v af M B h S aj} z f=>by
 simp only[eW]at z;cases y:jK fr e with
 |some i=>
  rw[y]at z;try simp only at z
  replace z:=ah z;obtain⟨xs,F,g,z⟩:=z
  exists z
  have G:e=.v i/\∃s,lent fr i=some s:=by
   cases e<;>simp only[jK,reduceCtorEq]at y
   rename_i j;split at y
   .rename_i k
    exists y
    exact⟨rfl,gN k⟩
   ·exists y
  obtain⟨rfl,s,k⟩:=G;obtain⟨n,K,_,_,_,C,L,_,_⟩:=kN k f;obtain⟨ds,p,S2,q,r,c⟩:=is g f;refine⟨.ref n :: ds,p,S2,?_,⟨_,_,rfl,C,r⟩,c.weak (by simp only[dB,nB];intro i hi;simpa using hi)⟩;simp only[Ev.bu,Ev.ev,C,Option.join,Option.bind,id,Ev.bS,Ev.ak,q]
 |none=>
  rw[y]at z;try simp only at z
  replace z:=ah z;obtain⟨x,N,H,z⟩:=z;replace z:=ah z;obtain⟨xs,F,g,z⟩:=z
  exists z
  obtain⟨d,Q,S1,I,J,A⟩:=Z H f;obtain⟨ds,p,S2,q,r,c⟩:=is g A.f;exact⟨d :: ds,p,S2,by simp only[Ev.bu,I,Ev.ak,q],⟨_,_,rfl,J.n.tr A.f c.tr,r⟩,A.trans c⟩
def Vy:vJ P P' .no:=λz f=>by
 simp only[jy]at z;exists z;exact⟨_,_,by simp only[Ev.jy],.refl f⟩
def Sh(I:bD P P' e):vJ P P' (.yes e):=λz f=>by
 simp only[jy]at z;replace z:=ah z;obtain⟨x,r,c,z⟩:=z;replace z:=aH z;obtain⟨z,g⟩:=z;subst g;obtain⟨d,h,S1,j,k,p⟩:=I c f;cases x<;>simp[intOf]at z
 subst z;have q:=k.t;subst q;exact⟨h,S1,by simp only[Ev.jy,j,Ev.ak];rfl,p⟩
def Si:zp P P' .no:=λz f=>by
 simp only[lM]at z;exists z;exact⟨_,_,by simp only[Ev.lM],.refl f⟩
def NP(I:jP P P' e):zp P P' (.yes e):=λz f=>by
 simp only[lM]at z;obtain⟨c,S1,d,g⟩:=I z f;exact⟨c,S1,by simp only[Ev.lM,d],g⟩
def Zt(I:jP P P' a)(Z:jP P P' b):jP P P' (.an a b):=λz f=>by
 rw[RJ]at z;replace z:=ah z;obtain⟨k,r,g,z⟩:=z;obtain⟨h,S1,d,c⟩:=I g f;cases k with
 |true=>
  obtain⟨j,S2,p,q⟩:=Z z c.f;exact⟨j,S2,by simp only[Ev.IL,d,Ev.ak,aa0,p],c.trans q⟩
 |false=>
  exists z
  exact⟨h,S1,by simp only[Ev.IL,d,Ev.ak];rfl,c.weak (by simp only[nB];intro i hi;simp[hi])⟩
def Vz(I:jP P P' a)(Z:jP P P' b):jP P P' (.orr a b):=λz f=>by
 rw[RK]at z;replace z:=ah z;obtain⟨k,r,g,z⟩:=z;obtain⟨h,S1,d,c⟩:=I g f;cases k with
 |false=>
  obtain⟨j,S2,p,q⟩:=Z z c.f;exact⟨j,S2,by simp only[Ev.IM,d,Ev.ak];exact p,c.trans q⟩
 |true=>
  exists z
  exact⟨h,S1,by simp only[Ev.IM,d,Ev.ak];rfl,c.weak (by simp only[nB];intro i hi;simp[hi])⟩
def Zu(I:jP P P' a):jP P P' (.nt a):=λz f=>by
 rw[RL]at z;replace z:=ah z;obtain⟨k,j,c,z⟩:=z;obtain⟨d,S1,g,h⟩:=I c f
 exists z
 exact⟨d,S1,by simp only[Ev.P1,g,Ev.ak],h⟩
def eG(I:bD P P' e)(h1:∀fr,bB P e fr=(ev P true e fr).bind λx af=>.ok (truthy x) af)(h2:∀fr h,Ev.bB P' e fr h=(Ev.ev P' e fr h).bind λx h1=>Ev.R.of (Ev.truthy h1 x) h1):jP P P' e:=λz f=>by
 rw[h1]at z;replace z:=ah z;obtain⟨x,af,c,z⟩:=z
 exists z
 obtain⟨d,h1,S1,g,j,k⟩:=I c f;exact⟨h1,S1,by rw[h2,g,Ev.ak,GK j.t];rfl,k⟩
def Sj(Z:bD P P' e){S:Ω}(z:src k fr e (ev P k e fr)=.ok v af)(f:bh M B h S fr aj):
  ∃d h' S',Ev.ev P' e aj h=.ok d h'/\cQ h' S' v d/\(k=false->∀n,d=.ref n->¬ M n)/\Out M B (aL e) h S fr aj h' S' af:=by
 have g:ev P k e fr=.ok v af->∃d h' S',Ev.ev P' e aj h=.ok d h'/\cQ h' S' v d/\(k=false->∀n,d=.ref n->¬ M n)/\Out M B (aL e) h S fr aj h' S' af:=λz=>by
  obtain⟨d,C,S1,j,A,r⟩:=Z z f;refine⟨d,C,S1,j,A.t,λF n c=>?_,r⟩;subst F;have q:=A.n;cases v<;>simp only[Rep]at q
  .cases q.symm.trans c
  .cases q.symm.trans c
  .cases q.symm.trans c
  .cases q.symm.trans c
  .obtain⟨_,q,_⟩:=q;cases q.symm.trans c
  .obtain⟨m,ds,q,x,_⟩:=q;cases q.symm.trans c;exact(r.f.wS _ x).2.1
  .obtain⟨m,ds,q,x,_⟩:=q;cases q.symm.trans c;exact(r.f.wS _ x).2.1
 cases e
 case v i=>
  replace z:=aH z;obtain⟨z,G⟩:=z;subst G;unfold Aq at z;split at z
  .rename_i l y
   exists z
   obtain⟨p,j,m,ds,rfl,H,I,J⟩:=f.get y;exact⟨.ref m,h,S,by simp only[Ev.ev,j,Option.join,Option.bind,id,Ev.bS],⟨m,ds,rfl,I,J⟩,λ_ n K=>by exists K;exact H,.refl f⟩
  .exact g (by simp only[ev,z,bS])
 all_goals exact g z
def Sk(I:bD P P' e):tF P P' (.seq e):=λz f=>by
 simp only[fc]at z;replace z:=ah z;obtain⟨x,G,h,z⟩:=z;replace z:=aH z;obtain⟨z,j⟩:=z;subst j;obtain⟨d,k,S1,p,r,y,A⟩:=Sj I h f;obtain⟨s,B,C,c⟩:=Js z r;exact⟨s,k,S1,by simp only[Ev.fc,p,Ev.ak,B,Ev.bS],C,λq g=>⟨(c q g).2,λF=>y F _ (c q g).1⟩,A⟩
def NQ(is:kB P P' es):tF P P' (.kI es):=λz f=>by
 simp only[fc]at z;replace z:=ah z;obtain⟨x,B,c,z⟩:=z;replace z:=aH z;obtain⟨z,g⟩:=z;subst g;obtain⟨d,h,S1,j,k,p⟩:=is c f;obtain⟨s,r,y⟩:=RW z k.t;exact⟨(s,[]),h,S1,by simp only[Ev.fc,j,Ev.ak,r,Ev.bS],y,λq A=>by simp at A,p⟩
def NR(I:bD P P' e):tF P P' (.rev e):=λz f=>by
 simp only[fc]at z;replace z:=ah z;obtain⟨x,B,c,z⟩:=z;replace z:=aH z;obtain⟨z,C⟩:=z;obtain⟨d,g,S1,h,j,k⟩:=I c f;simp only[ZJ]at z;obtain⟨l,z,rfl⟩:=z;cases x<;>simp only[Ea,reduceCtorEq]at z
 exists z
 have p:=j.t;obtain⟨ds,r,y⟩:=p;subst r;exact⟨(ds.reverse,[]),g,S1,by simp only[Ev.fc,h,Ev.ak,Ev.IJ,Option.map,Ev.bS],y.reverse,λq A=>by simp at A,k⟩
end
section
variable{P:aJ}{P':Ev.aJ}(HP:qa P P')
include HP
mutual
theorem bw:∀e:E,bD P P' e
 |.c _=>R8
 |.v _=>R9
 |.tup d=>GL (fG d)
 |.lst d=>GN (fG d)
 |.bin _ a b=>GO (bw a) (bw b)
 |.cmp _ a b=>GP (bw a) (bw b)
 |.ch _ _ a b c=>LO (bw a) (bw b) (bw c)
 |.nt a=>Vw (bw a)
 |.neg a=>GQ (bw a)
 |.an a b=>Vx (bw a) (bw b)
 |.orr a b=>Sa (bw a) (bw b)
 |.fV t a b=>GR (jb t) (bw a) (bw b)
 |.ix a b=>LN (bw a) (bw b)
 |.sl a j k=>LP (bw a) (vM j) (vM k)
 |.cl _ d=>LQ HP (lP d)
 |.bi _ d=>LR (fG d)
 |.me _ o d=>LS (bw o) (fG d)
 |.comp g _ h f=>AB (pG h) (GY f) (bw g)
 |.jx h=>GW (pG h)
 |.kh a=>GS (bw a)
 |.fld _ _ _=>GU
 |.fu _ _ _ _ d=>LU (fG d)
 |.fm _ _ _ _ d=>LV (fG d)
 |.mv _ _ _ _=>LW
 |.fq _ _ d=>GV HP (lP d)
theorem jb:∀e:E,jP P P' e
 |.an a b=>Zt (jb a) (jb b)
 |.orr a b=>Vz (jb a) (jb b)
 |.nt a=>Zu (jb a)
 |.c x=>eG R8 (λ_=>fE rfl) (λ_ _=>Ev.eB rfl)
 |.v x=>eG R9 (λ_=>fE rfl) (λ_ _=>Ev.eB rfl)
 |.tup d=>eG (GL (fG d)) (λ_=>fE rfl) (λ_ _=>Ev.eB rfl)
 |.lst d=>eG (GN (fG d)) (λ_=>fE rfl) (λ_ _=>Ev.eB rfl)
 |.bin _ a b=>eG (GO (bw a) (bw b)) (λ_=>fE rfl) (λ_ _=>Ev.eB rfl)
 |.cmp _ a b=>eG (GP (bw a) (bw b)) (λ_=>fE rfl) (λ_ _=>Ev.eB rfl)
 |.ch _ _ a b c=>eG (LO (bw a) (bw b) (bw c)) (λ_=>fE rfl) (λ_ _=>Ev.eB rfl)
 |.neg a=>eG (GQ (bw a)) (λ_=>fE rfl) (λ_ _=>Ev.eB rfl)
 |.fV t a b=>eG (GR (jb t) (bw a) (bw b)) (λ_=>fE rfl) (λ_ _=>Ev.eB rfl)
 |.ix a b=>eG (LN (bw a) (bw b)) (λ_=>fE rfl) (λ_ _=>Ev.eB rfl)
 |.sl a j k=>eG (LP (bw a) (vM j) (vM k)) (λ_=>fE rfl) (λ_ _=>Ev.eB rfl)
 |.cl _ d=>eG (LQ HP (lP d)) (λ_=>fE rfl) (λ_ _=>Ev.eB rfl)
 |.bi _ d=>eG (LR (fG d)) (λ_=>fE rfl) (λ_ _=>Ev.eB rfl)
 |.me _ o d=>eG (LS (bw o) (fG d)) (λ_=>fE rfl) (λ_ _=>Ev.eB rfl)
 |.comp g _ h f=>eG (AB (pG h) (GY f) (bw g)) (λ_=>fE rfl) (λ_ _=>Ev.eB rfl)
 |.jx h=>eG (GW (pG h)) (λ_=>fE rfl) (λ_ _=>Ev.eB rfl)
 |.kh a=>eG (GS (bw a)) (λ_=>fE rfl) (λ_ _=>Ev.eB rfl)
 |.fld _ _ _=>eG GU (λ_=>fE rfl) (λ_ _=>Ev.eB rfl)
 |.fu _ _ _ _ d=>eG (LU (fG d)) (λ_=>fE rfl) (λ_ _=>Ev.eB rfl)
 |.fm _ _ _ _ d=>eG (LV (fG d)) (λ_=>fE rfl) (λ_ _=>Ev.eB rfl)
 |.mv _ _ _ _=>eG LW (λ_=>fE rfl) (λ_ _=>Ev.eB rfl)
 |.fq _ _ d=>eG (GV HP (lP d)) (λ_=>fE rfl) (λ_ _=>Ev.eB rfl)
theorem fG:∀e:Es,kB P P' e
 |.nil=>Sg
 |.cons e a=>NN (bw e) (fG a)
theorem lP:∀e:Es,tE P P' e
 |.nil=>NO
 |.cons e a=>Ju (bw e) (lP a)
theorem vM:∀e:Eo,vJ P P' e
 |.no=>Vy
 |.yes e=>Sh (bw e)
theorem GY:∀e:Eo,zp P P' e
 |.no=>Si
 |.yes e=>NP (jb e)
theorem pG:∀e:It,tF P P' e
 |.seq e=>Sk (bw e)
 |.kI b=>NQ (fG b)
 |.rev a=>NR (bw a)
end
end
structure Tr(M B:Ω)(h:Hh)(S:Ω)(M':Ω)(h':Hh)(S':Ω):Prop where
 len:h.length<=h'.length
 keep:∀m,m<h.length->¬ M m->h'[m]?=h[m]?
 sub:∀m,S m->S' m
 new:∀m,S' m->S m\/(h.length<=m/\m<h'.length)\/(M m/\¬ B m)
 AD:∀m,M' m->M m\/h.length<=m
 cls:∀m:Nat,m<h.length->kO h'[m]?=kO h[m]?
structure fh(M B:Ω)(h:Hh)(S:Ω)(fr:Fr)(aj:Ev.Fr)(M':Ω)(h':Hh)(S':Ω)(af:Fr)(bW:Ev.Fr):Prop where
 f:bh M' B h' S' af bW
 tr:Tr M B h S M' h' S'
 lk:∀i,locked af i=locked fr i
 rf:∀i,locked fr i=true->bW[i]?=aj[i]?
def lQ(h:Hh)(S:Ω):Fl->Ev.Fl->Prop
 |.nx,g=>g=.nx
 |.bk,g=>g=.bk
 |.ct,g=>g=.ct
 |.ret v,g=>∃d,g=.ret d/\Rep h S v d
section
variable{M B M' M1 M2:Ω}{h h1 h2:Hh}{S S' S1 S2:Ω}{fr af ao:Fr}{aj bW oS:Ev.Fr}{c:Θ}{v:V}{d:D}
def fh.refl(f:bh M B h S fr aj):fh M B h S fr aj M h S fr aj:=⟨f,⟨aaB _,λ_ _ _=>rfl,λ_ q=>q,λ_ q=>.inl q,λ_ q=>.inl q
 ,λ_ _=>rfl
 ⟩,λ_=>rfl,λ_ _=>rfl⟩
def Out.s(o:Out M B c h S fr aj h1 S1 af):fh M B h S fr aj M h1 S1 af aj:=⟨o.f,⟨o.tr.len,λm a b=>o.tr.keep m a (λz=>b z.1),o.tr.sub,λm q=>(o.tr.new m q).imp id .inl,λ_ q=>.inl q
 ,o.tr.cls
 ⟩,o.lk,λ_ _=>rfl⟩
theorem fh.trans(f0:bh M B h S fr aj)(a:fh M B h S fr aj M1 h1 S1 af bW)(b:fh M1 B h1 S1 af bW M2 h2 S2 ao oS):fh M B h S fr aj M2 h2 S2 ao oS where
 f:=b.f
 tr:=⟨aaN a.tr.len b.tr.len,λm e g=>by
   rw[b.tr.keep m (WU e a.tr.len) (λz=>by
    rcases a.tr.AD m z with z|z
    .exact g z
    .lia),a.tr.keep m e g],λm q=>b.tr.sub m (a.tr.sub m q),λm q=>by
   rcases b.tr.new m q with q|q|q
   .rcases a.tr.new m q with q|q|q
    .exact .inl q
    .exact .inr (.inl ⟨q.1,WU q.2 b.tr.len⟩)
    .exact .inr (.inr q)
   .exact .inr (.inl ⟨aaN a.tr.len q.1,q.2⟩)
   .rcases a.tr.AD m q.1 with z|z
    .exact .inr (.inr ⟨z,q.2⟩)
    .exact .inr (.inl ⟨z,WU (a.f.wM m q.1) b.tr.len⟩),λm q=>by
   rcases b.tr.AD m q with q|q
   .exact a.tr.AD m q
   .exact .inr (aaN a.tr.len q)
  ,λm q=>(b.tr.cls m (WU q a.tr.len)).trans (a.tr.cls m q)
  ⟩
 lk:=λi=>(b.lk i).trans (a.lk i)
 rf:=λi q=>(b.rf i (by rw[a.lk i];exact q)).trans (a.rf i q)
def bh.kind(f:bh M B h S fr aj)(g:Option Sl->Option Sl->Prop)(hl:af.length=fr.length)(hg:∀(i:Nat) o,af[i]?=some o->∃o0,fr[i]?=some o0/\(o=o0\/(∃l,o0=some (.own l)/\o=some (.val (.lst l)))\/(∃l,o0=some (.bor l)/\o=some (.ro l)))):
  ∃M' S',fh M B h S fr aj M' h S' af aj:=by
 let X:=λm=>∃(i:Nat) (l:T0),fr[i]?=some (some (Sl.own l))/\af[i]?=some (some (Sl.val (V.lst l)))/\aj[i]?=some (some (D.ref m))
 let Y:=λm=>∃(i:Nat) (l:T0),fr[i]?=some (some (Sl.bor l))/\af[i]?=some (some (Sl.ro l))/\aj[i]?=some (some (D.ref m))
 have J:∀m,X m->M m/\¬ B m:=λm ⟨i,l,a,_,b⟩=>by
  obtain⟨m',ds,e,q,_⟩:=f.sl i _ _ a b;cases e;exact q
 have mono:∀{l:T0} {ds:U2},az h S l ds->az h (λm=>S m\/X m) l ds:=λq=>q.mono (λ_ _=>rfl) λ_ z=>.inl z;refine⟨λm=>M m/\¬ X m/\¬ Y m,λm=>S m\/X m,⟨⟨λm q=>?_,λm q=>f.wM m q.1,f.wB,by rw[hl,f.len],λi o p G H=>?_,λi j o N m P Q W Z y5 y6=>?_⟩,⟨aaB _,λ_ _ _=>rfl,λ_ q=>.inl q,λm q=>?_,λm q=>.inl q.1
  ,λ_ _=>rfl
  ⟩,λi=>?_,λ_ _=>rfl⟩⟩
 .rcases q with q|q
  .exact⟨(f.wS m q).1,λz=>(f.wS m q).2.1 z.1,(f.wS m q).2.2⟩
  .exact⟨f.wM m (J m q).1,λz=>z.2.1 q,(J m q).2⟩
 .obtain⟨o0,A,k⟩:=hg i o G;have x:=f.sl i o0 p A H;rcases k with rfl|⟨l,rfl,rfl⟩|⟨l,rfl,rfl⟩
  .rcases o with _|s
   .exact x
   .cases s with
    |val v=>obtain⟨d,e,q⟩:=x;exact⟨d,e,q.mono (λ_ _=>rfl) λ_ z=>.inl z⟩
    |own l=>
     obtain⟨m,ds,rfl,z,y,q⟩:=x;refine⟨m,ds,rfl,⟨⟨z.1,λ⟨j,I,C,r,F⟩=>?_,λ⟨j,I,C,r,F⟩=>?_⟩,z.2⟩,y,mono q⟩
     .have:=f.inj i j _ _ m A C rfl rfl H F;subst this;rw[G]at r;cases r
     .have:=f.inj i j _ _ m A C rfl rfl H F;subst this;rw[G]at r;cases r
    |bor l=>
     obtain⟨m,ds,rfl,z,y,q⟩:=x;refine⟨m,ds,rfl,⟨⟨z.1,λ⟨j,I,C,r,F⟩=>?_,λ⟨j,I,C,r,F⟩=>?_⟩,z.2⟩,y,mono q⟩
     .have:=f.inj i j _ _ m A C rfl rfl H F;subst this;rw[G]at r;cases r
     .have:=f.inj i j _ _ m A C rfl rfl H F;subst this;rw[G]at r;cases r
    |ro l=>obtain⟨m,ds,rfl,z,y,q⟩:=x;exact⟨m,ds,rfl,λw=>z w.1,y,mono q⟩
    |oo c l=>
     obtain⟨m,ds,rfl,z,y,q⟩:=x;refine⟨m,ds,rfl,⟨⟨z.1,λ⟨j,I,C,r,F⟩=>?_,λ⟨j,I,C,r,F⟩=>?_⟩,z.2⟩,y,mono q⟩
     .have:=f.inj i j _ _ m A C rfl rfl H F;subst this;rw[G]at r;cases r
     .have:=f.inj i j _ _ m A C rfl rfl H F;subst this;rw[G]at r;cases r
    |ob c l=>
     obtain⟨m,ds,rfl,z,y,q⟩:=x;refine⟨m,ds,rfl,⟨⟨z.1,λ⟨j,I,C,r,F⟩=>?_,λ⟨j,I,C,r,F⟩=>?_⟩,z.2⟩,y,mono q⟩
     .have:=f.inj i j _ _ m A C rfl rfl H F;subst this;rw[G]at r;cases r
     .have:=f.inj i j _ _ m A C rfl rfl H F;subst this;rw[G]at r;cases r
    |oq c l=>obtain⟨m,ds,rfl,z,y,q⟩:=x;exact⟨m,ds,rfl,λw=>z w.1,y,mono q⟩
  .obtain⟨m,ds,rfl,z,y,q⟩:=x;exact⟨.ref m,rfl,m,ds,rfl,.inr ⟨i,l,A,G,H⟩,y,mono q⟩
  .obtain⟨m,ds,rfl,z,y,q⟩:=x;exact⟨m,ds,rfl,λw=>w.2.2 ⟨i,l,A,G,H⟩,y,mono q⟩
 .have L:∀(i:Nat) o,af[i]?=some o->jA o=true->∃o0,fr[i]?=some o0/\jA o0=true:=λi o w1 K=>by
   obtain⟨o0,A,k⟩:=hg i o w1;rcases k with rfl|⟨l,rfl,rfl⟩|⟨l,rfl,rfl⟩
   .exact⟨o,A,K⟩
   ·exists K
   ·exists K
  obtain⟨oi,k1,k2⟩:=L i o P W;obtain⟨oj,k3,k4⟩:=L j N Q Z;exact f.inj i j oi oj m k1 k3 k2 k4 y5 y6
 .rcases q with q|q
  .exact .inl q
  .exact .inr (.inr (J m q))
 .unfold locked;cases z:af[i]? with
  |none=>
   have:fr[i]?=none:=by rw[ac1]at z ⊢;lia
   rw[this]
  |some o=>
   obtain⟨o0,A,k⟩:=hg i o z;rw[A];rcases k with rfl|⟨l,rfl,rfl⟩|⟨l,rfl,rfl⟩<;>rfl
def bh.dz(f:bh M B h S fr aj):∃M' S',fh M B h S fr aj M' h S' (fK fr) aj:=by
 refine f.kind (λ_ _=>True) (by simp[fK]) λi o e=>?_;unfold fK at e;rw[aaU]at e;cases z:fr[i]? with
 |none=>rw[z]at e;exists e
 |some a=>
  rw[z]at e;exists e;refine⟨a,rfl,?_⟩;rcases a with _|s
  .exact .inl rfl
  .cases s with
   |own l=>exact .inr (.inl ⟨l,rfl,rfl⟩)
   |_=>exact .inl rfl
def bh.pre(e:E)(f:bh M B h S fr aj):∃M' S',fh M B h S fr aj M' h S' (pZ e fr) aj:=by
 cases e with
 |v j=>
  refine f.kind (λ_ _=>True) (by simp[pZ]) λi o e=>?_;simp only[pZ]at e;rw[acL]at e;cases z:fr[i]? with
  |none=>rw[z]at e;simp at e
  |some a=>
   rw[z]at e;replace e:(if j=i then Option.map Sl.dz a else a)=o:=abi e;by_cases b:j=i
   .rw[OL b]at e;subst e;refine⟨a,rfl,?_⟩;rcases a with _|s
    .exact .inl rfl
    .cases s with
     |own l=>exact .inr (.inl ⟨l,rfl,rfl⟩)
     |_=>exact .inl rfl
   .rw[aaH b]at e;subst e;exact⟨a,rfl,.inl rfl⟩
 |_=>exact⟨_,_,.refl f⟩
theorem bh.walk:∀(is:Θ) {M:Ω}{S:Ω}{fr:Fr},bh M B h S fr aj->∃M' S',fh M B h S fr aj M' h S' (nZ is fr) aj
 |[],_,_,_,f=>⟨_,_,.refl f⟩
 |i :: is,M,S,fr,f=>by
  have one:∃M1 S1,fh M B h S fr aj M1 h S1 (match fr[i]? with|some (some s)=>fr.set i (some s.walk)|_=>fr) aj:=by
   split
   .rename_i s z;have g:=(gL z).1;refine f.kind (λ_ _=>True) (by simp) λj o e=>?_;by_cases a:i=j
    .subst a;rw[WV g]at e
     exists e
     refine⟨_,z,?_⟩;cases s with
     |own l=>exact .inr (.inl ⟨l,rfl,rfl⟩)
     |bor l=>exact .inr (.inr ⟨l,rfl,rfl⟩)
     |_=>exact .inl rfl
    .rw[T7 a]at e;exact⟨o,e,.inl rfl⟩
   .exact⟨M,S,.refl f⟩
  obtain⟨M1,S1,b⟩:=one;obtain⟨M2,S2,k⟩:=bh.walk is b.f;exact⟨M2,S2,b.trans f k⟩
def WH:Sl->List V->Prop
 |.own l,l'=>l=l'
 |.oo _ l,l'=>l=l'
 |_,_=>False
def bh.Sn(f:bh M B h S fr aj)(hs:WH s l)(e:put fr i s=some af)(q:az h S l ds):fh M B h S fr aj (λm=>M m\/m=h.length) (h++oO s ds :: rest) S af (aj.set i (some (.ref h.length))):=by
 have X:af=fr.set i (some s)/\locked fr i=false:=by
  unfold put at e;unfold locked;split at e
  ·exists e
  ·exists e
  ·exists e
  ·exists e
  .rename_i Y Z
    k3 k4
   exists e
   refine⟨rfl,?_⟩;cases z:fr[i]? with
   |none=>rfl
   |some o=>
    rcases o with _|s
    .rfl
    .cases s with
     |bor l=>exact absurd z (Y l)
     |ro l=>exact absurd z (Z l)
     |ob c l=>exact absurd z (k3 c l)
     |oq c l=>exact absurd z (k4 c l)
     |_=>rfl
 obtain⟨rfl,N⟩:=X;have kp:∀m,m<h.length->(h++oO s ds :: rest)[m]?=h[m]?:=λm z=>by rw[jk z]
 have G:=λm z=>kp m (f.w m z);refine⟨⟨λm y=>⟨by have:=(f.wS m y).1;simp;lia,λz=>?_,(f.wS m y).2.2⟩,λm y=>?_,λm y=>by have:=f.wB m y;simp;lia,by simp[f.len],λj o p A F=>?_,λj k o P m A F Q W I J=>?_⟩,⟨by simp,λm y _=>kp m y,λ_ z=>z,λ_ z=>.inl z,λm z=>z.imp id (λz=>by lia)
   ,λm y=>by rw[kp m y]
   ⟩,λj=>?_,λj r=>?_⟩
 .rcases z with z|z
  .exact(f.wS m y).2.1 z
  .have:=(f.wS m y).1;lia
 .rcases y with y|y
  .have:=f.wM m y;simp;lia
  .subst y;simp
 .by_cases r:i=j
  .subst r;have H:i<fr.length:=by have:=(gL A).1;simpa using this
   rw[WV H]at A;rw[WV (by rw[<-f.len];exact H)]at F
   exists A;exists F
   cases s<;>first
    |exact hs.elim
    | (simp only[WH]at hs;subst hs;exact⟨h.length,ds,rfl,⟨.inr rfl,λz=>by have:=f.wB _ z;lia⟩,by simp[oO],q.mono G λ_ z=>z⟩)
  .rw[T7 r]at A F;have g:=f.sl j o p A F;rcases o with _|s
   .exact g
   .cases s with
    |val v=>obtain⟨d,e,q⟩:=g;exact⟨d,e,q.mono G λ_ z=>z⟩
    |own l=>obtain⟨m,C,rfl,z,y,q⟩:=g;exact⟨m,C,rfl,⟨.inl z.1,z.2⟩,by rw[kp m (f.wM m z.1)];exact y,q.mono G λ_ z=>z⟩
    |bor l=>obtain⟨m,C,rfl,z,y,q⟩:=g;exact⟨m,C,rfl,⟨.inl z.1,z.2⟩,by rw[kp m (f.wM m z.1)];exact y,q.mono G λ_ z=>z⟩
    |ro l=>
     obtain⟨m,C,rfl,z,y,q⟩:=g;have L:=(gL y).1;exact⟨m,C,rfl,λw=>by rcases w with w|w;exact z w;lia,by rw[kp m L];exact y,q.mono G λ_ z=>z⟩
    |oo c l=>obtain⟨m,C,rfl,z,y,q⟩:=g;exact⟨m,C,rfl,⟨.inl z.1,z.2⟩,by rw[kp m (f.wM m z.1)];exact y,q.mono G λ_ z=>z⟩
    |ob c l=>obtain⟨m,C,rfl,z,y,q⟩:=g;exact⟨m,C,rfl,⟨.inl z.1,z.2⟩,by rw[kp m (f.wM m z.1)];exact y,q.mono G λ_ z=>z⟩
    |oq c l=>
     obtain⟨m,C,rfl,z,y,q⟩:=g;have L:=(gL y).1;exact⟨m,C,rfl,λw=>by rcases w with w|w;exact z w;lia,by rw[kp m L];exact y,q.mono G λ_ z=>z⟩
 .have K:∀(j:Nat) o,i≠j->fr[j]?=some o->jA o=true->aj[j]?=some (some (.ref m))->m<h.length:=λj o _ w1 w2 w3=>f.wM m (f.mM w1 w2 w3);have new:∀(j:Nat),j<fr.length->i=j->(aj.set i (some (.ref h.length)))[j]?=some (some (.ref m))->m=h.length:=λj H r w=>by
   subst r;rw[WV (by rw[<-f.len];exact H)]at w;cases w;rfl
  have lj:j<fr.length:=by have:=(gL A).1;simpa using this
  have lk:k<fr.length:=by have:=(gL F).1;simpa using this
  by_cases r:i=j
  .by_cases x:i=k
   .rw[<-r,<-x]
   .have a:=new j lj r I;rw[T7 x]at F J;have b:=K k P x F W J;lia
  .by_cases x:i=k
   .have a:=new k lk x J;rw[T7 r]at A I;have b:=K j o r A Q I;lia
   .rw[T7 r]at A I;rw[T7 x]at F J;exact f.inj j k o P m A F Q W I J
 .by_cases r:i=j
  .subst r;rw[N];unfold locked;by_cases H:i<fr.length
   .rw[WV H];cases s<;>first|rfl|exact hs.elim
   .rw[aaO (by simpa using H)]
  .unfold locked;rw[T7 r]
 .have:i≠j:=λz=>by subst z;rw[N]at r;exists r
  rw[T7 this]
theorem bh.own(f:bh M B h S fr aj)(e:put fr i (.own l)=some af)(q:az h S l ds):fh M B h S fr aj (λm=>M m\/m=h.length) (h++[.lst ds]) S af (aj.set i (some (.ref h.length))):=f.Sn (s:=.own l) rfl e q
end
inductive So(P':Ev.aJ)(w:Nat)(s:S)(g:Fl)(M B:Ω)(h:Hh)(S:Ω)(fr:Fr)(aj:Ev.Fr)(af:Fr):Prop
 |mk (g':Ev.Fl) (bW:Ev.Fr) (M':Ω) (h':Hh) (S':Ω) (c0:Ev.ex P' w s aj h=.ok (g',bW) h') (c1:lQ h' S' g g') (c2:fh M B h S fr aj M' h' S' af bW):So P' w s g M B h S fr aj af
inductive Sq(P':Ev.aJ)(w:Nat)(s:Ss)(g:Fl)(M B:Ω)(h:Hh)(S:Ω)(fr:Fr)(aj:Ev.Fr)(af:Fr):Prop
 |mk (g':Ev.Fl) (bW:Ev.Fr) (M':Ω) (h':Hh) (S':Ω) (c0:Ev.exs P' w s aj h=.ok (g',bW) h') (c1:lQ h' S' g g') (c2:fh M B h S fr aj M' h' S' af bW):Sq P' w s g M B h S fr aj af
section
variable(P:aJ)(P':Ev.aJ)(w:Nat)
def nF(s:S):Prop:=∀{fr:Fr} {g:Fl} {af:Fr} {M B:Ω} {h:Hh} {S:Ω} {aj:Ev.Fr},ex P w s fr=.ok g af->bh M B h S fr aj->So P' w s g M B h S fr aj af
def vN(s:Ss):Prop:=∀{fr:Fr} {g:Fl} {af:Fr} {M B:Ω} {h:Hh} {S:Ω} {aj:Ev.Fr},exs P w s fr=.ok g af->bh M B h S fr aj->Sq P' w s g M B h S fr aj af
end
section
variable{P:aJ}{P':Ev.aJ}{w:Nat}(HP:qa P P')
include HP
def Jv{i:Nat}{e:E}{fr:Fr}{g:Fl}{af:Fr}{M B:Ω}{h:Hh}{S:Ω}{aj:Ev.Fr}(z:((ev P false e fr).bind λx af=>if isNew e then (match x with
   |.lst l=>(R.of (put af i (.own l)) af).bind λao _=>.ok .nx ao
   |_=>.bad)
  else (R.of (put af i (.val x)) af).bind λao _=>.ok .nx ao)=.ok g af)(f:bh M B h S fr aj):So P' w (.set i e) g M B h S fr aj af:=by
 replace z:=ah z;obtain⟨x,ao,a,z⟩:=z;by_cases r:isNew e=true
 .rw[OL r]at z;have y:∃l ds c S1,x=.lst l/\az c S1 l ds/\Ev.ev P' e aj h=.ok (.ref c.length) (c++[.lst ds])/\Out M B (aL e) h S fr aj c S1 ao:=by
   cases e <;> (try simp only[isNew,abB]at r)
   case lst es=>
    simp only[ev]at a;replace a:=ah a;obtain⟨l,A,b,a⟩:=a;replace a:=aH a;obtain⟨a,p⟩:=a;subst p;unfold eV at a;split at a
    case isFalse=>cases a
    rename_i C;cases a;obtain⟨ds,c,S1,q,j,k⟩:=fG HP es b f;refine⟨l,ds,c,S1,rfl,j.n,?_,k⟩;simp only[Ev.ev,q,Ev.ak,Ev.alloc];rw[OL (by rw[<-j.n.length];exact C)]
   case jx it=>
    simp only[ev]at a;replace a:=ah a;obtain⟨l,A,b,a⟩:=a;replace a:=aH a;obtain⟨a,p⟩:=a;subst p;unfold eV at a;split at a
    case isFalse=>cases a
    rename_i C
    exists a
    obtain⟨s,c,S1,q,j,J,k⟩:=pG HP it b f;refine⟨l,s.1,c,S1,rfl,j,?_,k⟩;simp only[Ev.ev,q,Ev.ak,Ev.alloc];rw[OL (by rw[<-j.length];exact C)]
  obtain⟨l,ds,c,S1,rfl,j,q,k⟩:=y;simp only at z;replace z:=ah z;obtain⟨A,F,b,z⟩:=z;replace b:=aH b;obtain⟨b,p⟩:=b;subst p
  exists z
  have G:=k.f.own b j;exact⟨.nx,_,_,_,_,by simp only[Ev.iM,q,Ev.ak],rfl,k.s.trans f G⟩
 .rw[aaH r]at z;replace z:=ah z;obtain⟨A,F,b,z⟩:=z;replace b:=aH b;obtain⟨b,p⟩:=b;subst p
  exists z
  obtain⟨d,c,S1,q,j,k⟩:=bw HP e a f;obtain⟨f2,H,I⟩:=k.f.set b j.n;refine⟨.nx,_,_,_,_,by simp only[Ev.iM,q,Ev.ak],rfl,k.s.trans f ⟨f2,(fh.refl f2).tr,H,I⟩⟩
def NS:nF P P' w (.set i e):=λ{fr g af M B h S aj} z f=>by
 obtain⟨M0,S0,a⟩:=f.pre e;obtain⟨b,c,d,j,k,p,q,o⟩:=Jv HP z a.f;exact⟨b,c,d,j,k,p,q,a.trans f o⟩
def NT:nF P P' w (.ki l e):=λ{fr g af M B h S aj} z f=>by
 replace z:=ah z;obtain⟨x,y,c,z⟩:=z;replace z:=ah z;obtain⟨A,C,a,z⟩:=z;replace a:=aH a;obtain⟨a,F⟩:=a;exists z;obtain⟨d,G,S1,j,k,b⟩:=bw HP e c f;obtain⟨H,p,f2,q,r⟩:=b.f.cC a k.n;exact⟨.nx,_,_,_,_,by simp only[Ev.iM,j,Ev.ak,p],rfl,b.s.trans f ⟨f2,(fh.refl f2).tr,q,r⟩⟩
def Su:nF P P' w (.fst c i k e):=λ{fr g af M B h S aj} z f=>by
 replace z:=ah z;obtain⟨x,J,j,z⟩:=z;obtain⟨d,K,S1,p,r,b⟩:=bw HP e j f;split at z
 .rename_i s l y;split at z
  case isFalse=>exists z
  rename_i A
  exists z
  obtain⟨C,F,G,n,L,H,a,q⟩:=vK y b.f;obtain⟨N,I⟩:=qe b C F G H (q.set k r.n);exact⟨.nx,aj,M,_,S1,by simp only[Ev.iM,p,Ev.ak,a];rw[OL (by rw[<-q.length];exact A)],rfl,I.s⟩
 ·exists z
omit HP in
theorem Al.push{h:Hh}{S:Ω}(l:List O)(w:∀m,S m->m<h.length):Al h S (h++l) S:=⟨by simp,λm q=>by rw[jk q],λ_ q=>q,λ_ q=>.inl q⟩
omit HP in
theorem Sv{c:Ev.Cl}{i k:Nat}:nF P P' w (.q9 c i k):=λ{fr g af M B h S aj} z f=>by
 simp only[ex]at z;split at z
 .rename_i s l d;split at z
  case isFalse=>cases z
  rename_i e;cases z;obtain⟨j,p,r,n,y,x,a,q⟩:=vK d f;obtain⟨A,b⟩:=qe (l':=l.set k (.tup [])) (Out.refl (c:=[]) f) j p r x (q.set k (show Rep h S (.tup []) (.tup [])from ⟨[],rfl,.nil⟩));exact⟨.nx,aj,M,_,S,by simp only[Ev.iM,a];rw[OL (by rw[<-q.length];exact e)],rfl,(b.al (Al.push _ b.f.w)).s⟩
 .cases z
omit HP in
theorem vO{as:T0}{ds:U2}{h:Hh}{S:Ω}(q:az h S as ds):∀{tp:List Ev.TP}{l:T0},Ct as tp=some l->∃es,Ev.nV ds tp=some es/\az h S l es
 |[],l,e=>by cases e;exact⟨[],rfl,.nil⟩
 |.a j :: r,l,e=>by
  obtain⟨v,b,e⟩:=kA e;obtain⟨z,f,rfl⟩:=kS e;obtain⟨es,g,k⟩:=vO q f;obtain⟨d,p,y⟩:=q.get b;exact⟨d :: es,by simp only[Ev.nV,p,Option.bind,g,Option.map],.cons y k⟩
 |.t j :: r,l,e=>by
  obtain⟨v,b,e⟩:=kA e;obtain⟨z,f,rfl⟩:=kS e;obtain⟨es,g,k⟩:=vO q f;obtain⟨d,p,y⟩:=q.get b;exact⟨.tup [d] :: es,by simp only[Ev.nV,p,Option.bind,g,Option.map],.cons ⟨_,rfl,.cons y .nil⟩ k⟩
 |.c x :: r,l,e=>by
  obtain⟨v,b,e⟩:=kA e;obtain⟨z,f,rfl⟩:=kS e;obtain⟨es,g,k⟩:=vO q f;exact⟨x :: es,by simp only[Ev.nV,g,Option.map],.cons (pF b) k⟩
def Sw:nF P P' w (.new c i fd tp es):=λ{fr g af M B h S aj} z f=>by
 replace z:=ah z;obtain⟨J,cX,p,z⟩:=z;replace z:=ah z;obtain⟨K,L,q,z⟩:=z;replace z:=ah z;obtain⟨l,N,a,z⟩:=z;replace a:=aH a;obtain⟨a,r⟩:=a;split at z
 case isFalse=>exists z
 rename_i x;replace z:=ah z;obtain⟨Q,W,b,z⟩:=z;replace b:=aH b;obtain⟨b,r⟩:=b;exists z;obtain⟨ds,X,S0,y,A,d⟩:=fG HP es p f;obtain⟨Y,C,S1,F,Z,e⟩:=nA HP q d.f rfl;have j:=d.trans e;obtain⟨G,H,k⟩:=vO (A.n.tr d.f e.tr) a;have I:=j.f.Sn (s:=.oo c l) (rest:=Ev.iX C.length c.nv (G.length - c.nv)) rfl b k;exact⟨.nx,_,_,_,_,by simp only[Ev.iM,y,Ev.ak,F,H,Ev.bS];rw[OL (by rw[<-k.length];exact x)];rfl,rfl,j.s.trans f I⟩
def Sx:nF P P' w (.exp e):=λ{fr g af M B h S aj} z f=>by
 replace z:=ah z;obtain⟨x,j,a,z⟩:=z
 exists z
 obtain⟨d,k,S1,b,p,c⟩:=bw HP e a f;exact⟨.nx,_,_,_,_,by simp only[Ev.iM,b,Ev.ak],rfl,c.s⟩
def Sy:nF P P' w (.ret e):=λ{fr g af M B h S aj} z f=>by
 replace z:=ah z;obtain⟨x,p,b,z⟩:=z
 exists z
 obtain⟨M1,S1,a⟩:=f.dz;obtain⟨d,q,S2,c,j,k⟩:=bw HP e b a.f;exact⟨.ret d,_,_,_,_,by simp only[Ev.iM,c,Ev.ak],⟨d,rfl,j.n⟩,a.trans f k.s⟩
omit HP in
theorem xC{F:V->Fr->R Fl}{F':D->Ev.Fr->Hh->Ev.R (Ev.Fl×Ev.Fr)}{ck:List (Nat×U2)}{B:Ω}{Z:Ω}{h0:Hh}{S0:Ω}{cX:Fr}{Jw:Ev.Fr}(f0:bh Z B h0 S0 cX Jw)(st:∀q∈ck,bI h0 q.1=some q.2/\¬ Z q.1)(turn:∀v d fr g af M h S aj,F v fr=.ok g af->bh M B h S fr aj->Rep h S v d->∃g' bW M' h' S',F' d aj h=.ok (g',bW) h'/\lQ h' S' g g'/\fh M B h S fr aj M' h' S' af bW):
  ∀{vs:T0} {ds:U2} {fr:Fr} {g:Fl} {af:Fr} {M:Ω} {h:Hh} {S:Ω} {aj:Ev.Fr},forL F vs fr=.ok g af->fh Z B h0 S0 cX Jw M h S fr aj->az h S vs ds->
  ∃g' bW M' h' S',Ev.forL F' ck ds aj h=.ok (g',bW) h'/\lQ h' S' g g'/\fh Z B h0 S0 cX Jw M' h' S' af bW
 |[],ds,fr,g,af,M,h,S,aj,e,o,q=>by
  simp only[forL]at e;simp only[az]at q;subst q;cases e;refine⟨.nx,aj,M,h,S,?_,rfl,o⟩;simp only[Ev.forL];rw[OL (nD λx b=>qc (st x b).1 (o.tr.keep _ (vI (st x b).1) (st x b).2))]
 |v :: vs,ds,fr,g,af,M,h,S,aj,e,o,q=>by
  simp only[forL]at e;replace e:=ah e;obtain⟨p,L,N,e⟩:=e;simp only[az]at q;obtain⟨d,Q,rfl,W,X⟩:=q;obtain⟨g',J,M2,k,S2,c,a,r⟩:=turn v d fr p L M h S aj N o.f W;have j:=o.trans f0 r;have iP:Ev.stays h ck=true:=nD λx b=>qc (st x b).1 (o.tr.keep _ (vI (st x b).1) (st x b).2);have WI:az k S2 vs Q:=X.mono (λm z=>r.tr.keep m (o.f.wS m z).1 (o.f.wS m z).2.1) r.tr.sub;cases p with
  |nx=>
   simp only[lQ]at a;subst a;simp only at e;obtain⟨y,A,M3,C,S3,G,H,I⟩:=xC f0 st turn e j WI;refine⟨y,A,M3,C,S3,?_,H,I⟩;simp only[Ev.forL];rw[OL iP,c,Ev.ak];exact G
  |ct=>
   simp only[lQ]at a;subst a;simp only at e;obtain⟨y,A,M3,C,S3,G,H,I⟩:=xC f0 st turn e j WI;refine⟨y,A,M3,C,S3,?_,H,I⟩;simp only[Ev.forL];rw[OL iP,c,Ev.ak];exact G
  |bk=>
   simp only[lQ]at a;subst a;simp only at e;cases e;refine⟨.nx,J,M2,k,S2,?_,rfl,j⟩;simp only[Ev.forL];rw[OL iP,c,Ev.ak]
  |ret x=>
   simp only[lQ]at a;obtain⟨K,rfl,a⟩:=a;simp only at e;cases e;refine⟨.ret K,J,M2,k,S2,?_,⟨K,rfl,a⟩,j⟩;simp only[Ev.forL];rw[OL iP,c,Ev.ak]
def Sz(ib:vN P P' w b):nF P P' w (.for t it b):=λ{r g I M B h S x} z f=>by
 replace z:=ah z;obtain⟨vs,A,J,z⟩:=z;obtain⟨M1,S1,C⟩:=f.walk (itv it);obtain⟨s,F,S2,K,L,G,a⟩:=pG HP it J C.f;have N:=C.trans f a.s;obtain⟨c,e,M',j,S',Q,W,X⟩:=xC (F':=λd A F=>match Ev.cC t d A with
   |some k=>Ev.exs P' w b k F
   |none=>.bad) a.f (λq H=>⟨(G q H).1,(G q H).2 rfl⟩) (λv d r g I M h S x y f q=>by
  split at y
  .rename_i k Y;obtain⟨Z,b1,p,b3,b4⟩:=f.cC Y q;rw[b1];obtain⟨c,e,M',j,S',c1,c2,c3⟩:=ib y p;exact⟨c,e,M',j,S',c1,c2,(⟨p,(fh.refl p).tr,b3,b4⟩:fh M _ h S r x M h S k Z).trans f c3⟩
  ·exists y) z (fh.refl a.f) L
 refine⟨c,e,M',j,S',?_,W,N.trans f X⟩;simp only[Ev.iM,K,Ev.ak];exact Q
theorem AE(Z:vN P P' w b):∀(n:Nat) {fr:Fr}{g:Fl}{af:Fr}{M B:Ω}{h:Hh}{S:Ω}{aj:Ev.Fr},g7 (λao=>bB P t ao) (λao=>exs P w b ao) n fr=.ok g af->bh M B h S fr aj->
  ∃g' bW M' h' S',Ev.g7 (λao h2=>Ev.bB P' t ao h2) (λao h2=>Ev.exs P' w b ao h2) n aj h=.ok (g',bW) h'/\lQ h' S' g g'/\fh M B h S fr aj M' h' S' af bW
 |0,_,_,_,_,_,_,_,_,z,_=>by cases z
 |n+1,fr,g,af,M,B,h,S,aj,z,f=>by
  replace z:=ah z;obtain⟨k,ao,I,z⟩:=z;obtain⟨J,S1,c,j⟩:=jb HP t I f;cases k with
  |false=>
   cases z;refine⟨.nx,aj,M,J,S1,?_,rfl,j.s⟩;simp only[Ev.g7,c,Ev.ak];rw[aaH (by decide)]
  |true=>
   replace z:=ah z;obtain⟨p,L,K,z⟩:=z;obtain⟨g',G,M2,h2,S2,d,a,q⟩:=Z K j.f;have e:=j.s.trans f q;cases p with
   |nx=>
    subst a;obtain⟨r,Jx,M3,y,S3,A,C,F⟩:=AE Z n z q.f;refine⟨r,Jx,M3,y,S3,?_,C,e.trans f F⟩;simp only[Ev.g7,c,Ev.ak,aa0,d];exact A
   |ct=>
    subst a;obtain⟨r,Jx,M3,y,S3,A,C,F⟩:=AE Z n z q.f;refine⟨r,Jx,M3,y,S3,?_,C,e.trans f F⟩;simp only[Ev.g7,c,Ev.ak,aa0,d];exact A
   |bk=>
    subst a;cases z;refine⟨.nx,G,M2,h2,S2,?_,rfl,e⟩;simp only[Ev.g7,c,Ev.ak,aa0,d]
   |ret x=>
    obtain⟨H,rfl,a⟩:=a;cases z;refine⟨.ret H,G,M2,h2,S2,?_,⟨H,rfl,a⟩,e⟩;simp only[Ev.g7,c,Ev.ak,aa0,d]
def SA(I:vN P P' w a)(Z:vN P P' w b):nF P P' w (.iff t a b):=λ{fr g af M B h S aj} z f=>by
 replace z:=ah z;obtain⟨k,A,y,z⟩:=z;obtain⟨C,S1,x,c⟩:=jb HP t y f;cases k with
 |true=>
  obtain⟨d,e,M',j,S',p,q,r⟩:=I z c.f;exact⟨d,e,M',j,S',by simp only[Ev.iM,x,Ev.ak,aa0,p],q,c.s.trans f r⟩
 |false=>
  obtain⟨d,e,M',j,S',p,q,r⟩:=Z z c.f;exact⟨d,e,M',j,S',by simp only[Ev.iM,x,Ev.ak];exact p,q,c.s.trans f r⟩
def AF(P':Ev.aJ):Prop:=∀f ds h d h',P' (f+Ev.xo) ds h=.ok d h'->P' f ds h=.bad
def VA(Z:AF P'):nF P P' w (.tr g kk es):=λ{fr _ af M B h S aj} z f=>by
 replace z:=ah z;obtain⟨G,H,r,z⟩:=z;obtain⟨ds,I,S1,p,q,a⟩:=lP HP es r f;split at z
 .rename_i v x y
  exists z
  obtain⟨d,e,S2,b,j,k⟩:=nA HP y a.f q;exact⟨.ret d,aj,M,e,S2,by simp only[Ev.iM,p,Ev.ak,b,Ev.tryD],⟨d,rfl,j⟩,(a.trans k).s⟩
 .replace z:=ah z;obtain⟨c,x,A,z⟩:=z;replace z:=aH z;obtain⟨z,rfl⟩:=z;obtain⟨d,e,S2,b,j,k⟩:=nA HP A a.f q;have C:=Z _ _ _ _ _ b;cases c with
  |int c=>
   subst j;simp only[Eb]at z;split at z
   case isFalse=>exists z
   rename_i F
   exists z
   refine⟨.ret (.tup [.str [114,101,102,117,115,101,100],.int c]),aj,M,e,S2,by simp only[Ev.iM,p,Ev.ak,b,C,Ev.tryD,Ev.DH,OL F,Ev.bS],⟨_,rfl,?_⟩,(a.trans k).s⟩;simp[Rep,az]
  |_=>exists z
mutual
theorem LX(I:AF P'):∀s:S,nF P P' w s
 |.set _ _=>NS HP
 |.ki _ _=>NT HP
 |.exp _=>Sx HP
 |.fst _ _ _ _=>Su HP
 |.q9 _ _ _=>Sv
 |.new _ _ _ _ _=>Sw HP
 |.ret _=>Sy HP
 |.iff _ a b=>SA HP (pH I a) (pH I b)
 |.for _ _ b=>Sz HP (pH I b)
 |.tr _ _ _=>VA HP I
 |.qG _ b=>λz f=>by
  simp only[ex]at z;obtain⟨c,d,M',e,S',g,h,j⟩:=AE HP (pH I b) w z f;exact⟨c,d,M',e,S',by simp only[Ev.iM];exact g,h,j⟩
 |.fP _=>λz _=>by simp only[ex]at z;cases z
 |.cnt=>λz f=>by simp only[ex]at z;cases z;exact⟨.ct,_,_,_,_,by simp only[Ev.iM],rfl,.refl f⟩
theorem pH(I:AF P'):∀s:Ss,vN P P' w s
 |.nil=>λz f=>by simp only[exs]at z;cases z;exact⟨.nx,_,_,_,_,by simp only[Ev.exs],rfl,.refl f⟩
 |.cons s h=>λz f=>by
  simp only[exs]at z;replace z:=ah z;obtain⟨p,C,j,z⟩:=z;obtain⟨F,d,M2,e,S2,c,a,b⟩:=LX I s j f;cases p with
  |nx=>
   simp only[lQ]at a;subst a;simp only at z;obtain⟨k,q,M3,r,S3,y,A,B⟩:=pH I h z b.f;exact⟨k,q,M3,r,S3,by simp only[Ev.exs,c,Ev.ak,y],A,b.trans f B⟩
  |ct=>
   simp only[lQ]at a;subst a;simp only at z;cases z;exact⟨.ct,d,M2,e,S2,by simp only[Ev.exs,c,Ev.ak],rfl,b⟩
  |bk=>
   simp only[lQ]at a;subst a;simp only at z;cases z;exact⟨.bk,d,M2,e,S2,by simp only[Ev.exs,c,Ev.ak],rfl,b⟩
  |ret x=>
   simp only[lQ]at a;obtain⟨g,rfl,a⟩:=a;simp only at z;cases z;exact⟨.ret g,d,M2,e,S2,by simp only[Ev.exs,c,Ev.ak],⟨g,rfl,a⟩,b⟩
end
end
structure nG(M:Ω)(h h':Hh):Prop where
 len:h.length<=h'.length
 keep:∀m,m<h.length->¬ M m->h'[m]?=h[m]?
 cls:∀m:Nat,m<h.length->kO h'[m]?=kO h[m]?
inductive xD(c:Nat)(M:Ω)(h:Hh)(r:Ev.XR):Prop
 |mk (h':Hh) (e:r=some (c,h')) (k:nG M h h'):xD c M h r
def vQ(X:eE)(z:Ev.eE):Prop:=∀f sl c,X f sl=some c->∀(h:Hh) (S B:Ω) (ds:U2),bh B B h S (sl.map some) (ds.map some)->xD c B h (z f ds h)
def nG.after{S I:Ω}(o:fh M B h S fr aj M1 h1 I af bW)(r:nG M1 h1 h2):nG M h h2:=⟨aaN o.tr.len r.len,λm a b=>by
 rw[r.keep m (WU a o.tr.len) (λz=>by
  rcases o.tr.AD m z with z|z
  .exact b z
  .lia),o.tr.keep m a b]
 ,λm y=>(r.cls m (WU y o.tr.len)).trans (o.tr.cls m y)
 ⟩
section
variable{P:aJ}{P':Ev.aJ}{X:eE}{X':Ev.eE}{w:Nat}(HP:qa P P')(HE:AF P')(HX:vQ X X')(HB:∀f ds h r,X' f ds h=some r->P' f ds h=.bad)
include HP HX HB
mutual
theorem tK:∀(e:E) {fr:Fr}{c:Nat}{M B:Ω}{h:Hh}{S:Ω}{aj:Ev.Fr},xe P X e fr=some c->bh M B h S fr aj->xD c M h (Ev.xe P' X' e aj h)
 |.cl g es,fr,c,M,B,h,S,aj,z,f=>by
  simp only[xe]at z;simp only[Ev.xe];split at z
  .rename_i G H y;obtain⟨ds,j,S1,p,q,b⟩:=lP HP es y f;rw[p];unfold mD at z;split at z
   case isFalse=>cases z
   rename_i nd;rw[aab]at z;obtain⟨I,x,A⟩:=z;obtain⟨d,a,k⟩:=HX _ _ _ A j S1 _ ds (xB b.f nd x q);exact⟨d,a,nG.after b.s ⟨k.len,λm C F=>k.keep m C λz=>F (LB.m b.f m z)
    ,k.cls
    ⟩⟩
  .obtain⟨d,a,k⟩:=vR es z f;rw[Ev.zM HB es a];exact⟨d,a,k⟩
 |.ix _ _,_,_,_,_,_,_,_,z,_=>nomatch z|.me _ _ _,_,_,_,_,_,_,_,z,_=>nomatch z
 |.fq cc g es,fr,c,M,B,h,S,aj,z,f=>by
  simp only[xe]at z;simp only[Ev.xe];split at z
  case isFalse=>cases z
  rename_i J;rw[OL (CC J f)];split at z
  .rename_i G H y;obtain⟨ds,j,S1,p,q,b⟩:=lP HP es y f;rw[p];unfold mD at z;split at z
   case isFalse=>cases z
   rename_i nd;rw[aab]at z;obtain⟨I,x,A⟩:=z;obtain⟨d,a,k⟩:=HX _ _ _ A j S1 _ ds (xB b.f nd x q);exact⟨d,a,nG.after b.s ⟨k.len,λm C F=>k.keep m C λz=>F (LB.m b.f m z),k.cls⟩⟩
  .obtain⟨d,a,k⟩:=vR es z f;rw[Ev.zM HB es a];exact⟨d,a,k⟩
 |.tup _,_,_,_,_,_,_,_,z,_=>nomatch z|.comp _ _ _ _,_,_,_,_,_,_,_,z,_=>nomatch z|.kh _,_,_,_,_,_,_,_,z,_=>nomatch z
 |.c _,_,_,_,_,_,_,_,z,_=>nomatch z|.v _,_,_,_,_,_,_,_,z,_=>nomatch z|.lst _,_,_,_,_,_,_,_,z,_=>nomatch z
 |.bin _ _ _,_,_,_,_,_,_,_,z,_=>nomatch z|.cmp _ _ _,_,_,_,_,_,_,_,z,_=>nomatch z
 |.ch _ _ _ _ _,_,_,_,_,_,_,_,z,_=>nomatch z
 |.nt _,_,_,_,_,_,_,_,z,_=>nomatch z|.neg _,_,_,_,_,_,_,_,z,_=>nomatch z|.an _ _,_,_,_,_,_,_,_,z,_=>nomatch z|.orr _ _,_,_,_,_,_,_,_,z,_=>nomatch z|.fV _ _ _,_,_,_,_,_,_,_,z,_=>nomatch z
 |.sl _ _ _,_,_,_,_,_,_,_,z,_=>nomatch z
 |.bi _ _,_,_,_,_,_,_,_,z,_=>nomatch z
 |.jx _,_,_,_,_,_,_,_,z,_=>nomatch z
theorem vR:∀(es:Es) {fr:Fr}{c:Nat}{M B:Ω}{h:Hh}{S:Ω}{aj:Ev.Fr},yI P X es fr=some c->bh M B h S fr aj->xD c M h (Ev.xa P' X' es aj h)
 |.nil,_,_,_,_,_,_,_,z,_=>nomatch z
 |.cons e es,fr,c,M,B,h,S,aj,z,f=>by
  simp only[yI]at z;simp only[Ev.xa];split at z
  .rename_i i a;cases e with
   |v j=>
    simp only[jK]at a;split at a
    case isFalse=>cases a
    rename_i q;cases a;obtain⟨s,x⟩:=gN q;obtain⟨n,ds,l,o,F,A,G,H,I⟩:=kN x f;simp only[Ev.ev,A,Option.join,Option.bind,id,Ev.bS];exact vR es z f
   |_=>cases a
  .split at z
   .rename_i y;obtain⟨d,J,S1,C,K,p⟩:=bw HP e y f;rw[C];obtain⟨g,b,k⟩:=vR es z p.f;exact⟨g,b,nG.after p.s k⟩
   .obtain⟨g,b,k⟩:=tK e z f;rw[(Ev.iA HB e b).1];exact⟨g,b,k⟩
end
include HE
mutual
theorem VB:∀(s:S) {fr:Fr}{c:Nat}{M B:Ω}{h:Hh}{S:Ω}{aj:Ev.Fr},xs P X w s fr=some c->bh M B h S fr aj->xD c M h (Ev.xs P' X' w s aj h)
 |.fP c,fr,_,M,B,h,S,aj,z,f=>by
  simp only[xs]at z;split at z
  case isFalse=>cases z
  rename_i p;cases z;exact⟨h,OL p,aaB _,λ_ _ _=>rfl
   ,λ_ _=>rfl
   ⟩
 |.set i e,fr,c,M,B,h,S,aj,z,f=>by
  simp only[xs]at z;simp only[Ev.xs];exact tK HP HX HB e z f
 |.exp e,fr,c,M,B,h,S,aj,z,f=>by
  simp only[xs]at z;simp only[Ev.xs];exact tK HP HX HB e z f
 |.ret e,fr,c,M,B,h,S,aj,z,f=>by
  simp only[xs]at z;simp only[Ev.xs];obtain⟨M1,S1,o⟩:=f.dz;obtain⟨g,d,k⟩:=tK HP HX HB e z o.f;exact⟨g,d,nG.after o k⟩
 |.fst _ _ _ e,fr,c,M,B,h,S,aj,z,f=>by simp only[xs]at z;simp only[Ev.xs];exact tK HP HX HB e z f
 |.iff t a b,fr,c,M,B,h,S,aj,z,f=>by
  simp only[xs]at z;simp only[Ev.xs];split at z
  .rename_i k r y;obtain⟨x,S1,q,j⟩:=jb HP t y f;rw[q];cases k with
   |true=>
    obtain⟨g,d,k⟩:=vS a (by simpa using z) j.f;exact⟨g,by simpa using d,nG.after j.s k⟩
   |false=>
    obtain⟨g,d,k⟩:=vS b (by simpa using z) j.f;exact⟨g,by simpa using d,nG.after j.s k⟩
  .obtain⟨g,d,k⟩:=tK HP HX HB t z f;rw[(Ev.iA HB t d).2];exact⟨g,d,k⟩
 |.for _ _ _,_,_,_,_,_,_,_,z,_=>nomatch z|.qG _ _,_,_,_,_,_,_,_,z,_=>nomatch z
 |.ki _ _,_,_,_,_,_,_,_,z,_=>nomatch z
 |.cnt,_,_,_,_,_,_,_,z,_=>nomatch z
 |.tr _ _ _,_,_,_,_,_,_,_,z,_=>nomatch z
theorem vS:∀(s:Ss) {fr:Fr}{c:Nat}{M B:Ω}{h:Hh}{S:Ω}{aj:Ev.Fr},xss P X w s fr=some c->bh M B h S fr aj->xD c M h (Ev.xss P' X' w s aj h)
 |.nil,_,_,_,_,_,_,_,z,_=>nomatch z
 |.cons s ss,fr,c,M,B,h,S,aj,z,f=>by
  simp only[xss]at z;simp only[Ev.xss];split at z
  .rename_i y;obtain⟨gl,j,M2,p,S2,g,d,e⟩:=LX HP HE s y f;simp only[lQ]at d;subst d;rw[g];obtain⟨b,a,k⟩:=vS ss z e.f;exact⟨b,a,nG.after e k⟩
  .cases z
  .obtain⟨b,a,k⟩:=VB s z f;rw[Ev.rA HB s a];exact⟨b,a,k⟩
end
end
def tL{h h':Hh}{S:Ω}(q:m6 B B h S (some s) (some (.ref m)))(z:yJ (some s)=true)(I:yJ (some s')=true)(c:∀m:Nat,m<h.length->kO h'[m]?=kO h[m]?)(k1:h'[m]?=some (oO s' es)):h'[m]?=some (oO s es):=by
 have a:∃ds,h[m]?=some (oO s ds):=by
  cases s<;>first | (exists z;done) | (obtain⟨d,CB,e,_,y,_⟩:=q;cases e;exact⟨CB,y⟩)
 obtain⟨ds,a⟩:=a;have b:=c m (gL a).1;rw[k1,a]at b;rw[k1];cases s<;>cases s'<;>first|rfl | (exists b;done) | (exists z;done) | (exists I;done) | (simp only[oO,kO,acs]at b;subst b;rfl)
theorem xE{S:Ω}:∀{sl:List Sl}{ds:U2}{cs:Fr},sl.length=ds.length->
  (∀(a:Nat) s d,sl[a]?=some s->ds[a]?=some d->m6 B B h0 S0 (some s) (some d)/\locked cs a=yJ (some s)/\(yJ (some s)=true->∃m es l s',d=.ref m/\h[m]?=some (oO s es)/\az h S l es/\cs[a]?=some (some s')/\s'.out=some l))->oR h S sl ds ((cs.take sl.length).filterMap λo=>o.bind Sl.out)
 |[],ds,cs,_,_=>by simp[oR]
 |s :: sl,[],cs,hl,_=>by simp at hl
 |s :: sl,d :: ds,[],hl,q=>by
  have j:=xE (h:=h) (S:=S) (cs:=[]) (by simpa using hl) λa s' F G H=>by
   obtain⟨g,C,b⟩:=q (a+1) s' F (by simpa using G) (by simpa using H);exact⟨g,by simpa[locked]using C,λz=>by obtain⟨_,_,_,_,_,_,_,y,_⟩:=b z;simp at y⟩
  obtain⟨g,C,b⟩:=q 0 s d (by simp) (by simp);cases s with
  |val v=>simp at j ⊢;exact⟨d,ds,rfl,j⟩
  |own l=>exact absurd g (by rintro⟨m,es,e,q,_⟩;exact q.2 q.1)
  |bor l=>obtain⟨_,_,_,_,_,_,_,y,_⟩:=b rfl;simp at y
  |ro l=>obtain⟨_,_,_,_,_,_,_,y,_⟩:=b rfl;simp at y
  |oo c l=>exact absurd g (by rintro⟨m,es,e,q,_⟩;exact q.2 q.1)
  |ob c l=>obtain⟨_,_,_,_,_,_,_,y,_⟩:=b rfl;simp at y
  |oq c l=>obtain⟨_,_,_,_,_,_,_,y,_⟩:=b rfl;simp at y
 |s :: sl,d :: ds,o :: cs,hl,q=>by
  have j:=xE (by simpa using hl) λa s' F G H=>by
   obtain⟨g,C,b⟩:=q (a+1) s' F (by simpa using G) (by simpa using H);exact⟨g,by simpa[locked]using C,λz=>by simpa using b z⟩
  obtain⟨g,C,b⟩:=q 0 s d (by simp) (by simp);cases s with
  |val v=>
   have:o.bind Sl.out=none:=by
    rcases o with _|s
    .rfl
    .cases s<;>first|rfl|cases C
   simp only[aaI,abq,aaS,this];exact⟨d,ds,rfl,j⟩
  |own l=>exact absurd g (by rintro⟨m,es,e,q,_⟩;exact q.2 q.1)
  |bor l=>
   obtain⟨m,es,k,s',p,r,x,f,A⟩:=b rfl;simp at f;subst f;simp only[aaI,abq,aaS,Option.bind,A];exact⟨d,ds,k,_,m,es,rfl,rfl,p,r,x,j⟩
  |ro l=>
   obtain⟨m,es,k,s',p,r,x,f,A⟩:=b rfl;simp at f;subst f;simp only[aaI,abq,aaS,Option.bind,A];exact⟨d,ds,k,_,m,es,rfl,rfl,p,r,x,j⟩
  |oo c l=>exact absurd g (by rintro⟨m,es,e,q,_⟩;exact q.2 q.1)
  |ob c l=>
   obtain⟨m,es,k,s',p,r,x,f,A⟩:=b rfl;simp at f;subst f;simp only[aaI,abq,aaS,Option.bind,A];exact⟨d,ds,k,_,m,es,rfl,rfl,p,r,x,j⟩
  |oq c l=>
   obtain⟨m,es,k,s',p,r,x,f,A⟩:=b rfl;simp at f;subst f;simp only[aaI,abq,aaS,Option.bind,A];exact⟨d,ds,k,_,m,es,rfl,rfl,p,r,x,j⟩
def GZ{S:Ω}(I:bh B B h S (sl.map some) (ds.map some))(z:sl.length=ds.length):bh B B h S (cX fn sl) (Ev.cX fn ds):=by
 unfold cX Ev.cX;have d:∀(i:Nat) o,(sl.map some++List.replicate (fn.ns - fn.np) none)[i]?=some o->(sl.map some)[i]?=some o\/(sl.length<=i/\o=none):=λi o y=>by
  by_cases a:i<sl.length
  .rw[jk (by simpa using a)]at y;exact .inl y
  .rw[aaY (by simpa using a)]at y;have:=aaC y;exact .inr ⟨by lia,(List.mem_replicate.mp this).2⟩
 have e:∀(i:Nat) p,i<sl.length->(ds.map some++List.replicate (fn.ns - fn.np) none)[i]?=some p->(ds.map some)[i]?=some p:=λi p a y=>by
  rw[jk (by simpa[<-z]using a)]at y;exact y
 refine⟨I.wS,I.wM,I.wB,by simp[z],λi o p b c=>?_,λi j o f m b c g k r x=>?_⟩
 .rcases d i o b with b|⟨a,rfl⟩
  .have a:i<sl.length:=by have:=(gL b).1;simpa using this
   exact I.sl i o p b (e i p a c)
  .rw[aaY (by simpa[<-z]using a)]at c;have:=aaC c;exact(List.mem_replicate.mp this).2
 .rcases d i o b with b|⟨a,rfl⟩
  .rcases d j f c with c|⟨q,rfl⟩
   .have a:i<sl.length:=by have:=(gL b).1;simpa using this
    have q:j<sl.length:=by have:=(gL c).1;simpa using this
    exact I.inj i j o f m b c g k (e i _ a r) (e j _ q x)
   ·exists k
  ·exists g
def NU(I:F.length<=Ev.xo)(w n:Nat):AF (Ev.run F w n):=λf ds h d a e=>by
 cases n with
 |zero=>exists e
 |succ n=>
  rw[Ev.gg,aaO (by lia)]at e;simp only[Ev.qH]at e;rw[OL (by lia),acR]at e;split at e
  .rename_i z;exact Ev.uE F w _ _ _ _ _ z
  ·exists e
def bh.sr{S B:Ω}{sl:List Sl}{ds:U2}(z:bh B B h S (sl.map some) (ds.map some)):bh (λ_=>False) (λ_=>False) h S ((sl.map Sl.read).map some) (ds.map some):=by
 have e:((sl.map Sl.read).map some:Fr)=iZ (sl.map some):=by simp[iZ]
 have f:=z.ro;rw[<-e]at f;exact⟨λm y=>⟨(f.wS m y).1,id,id⟩,λm y=>y.elim,λm y=>y.elim,f.len,λi o p a b=>by
  have q:=f.sl i o p a b;rcases o with _|s
  .exact q
  .cases s with
   |own l=>obtain⟨_,_,_,q,_⟩:=q;exact q.1.elim
   |bor l=>obtain⟨_,_,_,q,_⟩:=q;exact q.1.elim
   |oo c l=>obtain⟨_,_,_,q,_⟩:=q;exact q.1.elim
   |ob c l=>obtain⟨_,_,_,q,_⟩:=q;exact q.1.elim
   |_=>exact q,λi j o d m a b g k r x=>f.inj i j o d m a b g k r x⟩
def SD(HX:vQ X X')(e:qH X f sl=some (v,os)){S B:Ω}(I:bh B B h S (sl.map some) (ds.map some)):
  ∃d h' S',Ev.qH X' f ds h=.ok d h'/\Rep h' S' v d/\Tk B h S h' S'/\oR h' S' sl ds os:=by
 unfold qH at e;split at e
 case isFalse=>exists e
 rename_i C;rw[ZJ]at e;obtain⟨c,p,r⟩:=e
 exists r
 obtain⟨h',F,k⟩:=HX _ _ _ p h S _ ds I.sr;have kp:∀m,m<h.length->h'[m]?=h[m]?:=λm y=>k.keep m y id;refine⟨.int c,h',S,by simp only[Ev.qH];rw[OL C,F],by simp[Rep],⟨k.len,λm y _=>kp m y,λ_ q=>q,λ_ q=>.inl q
  ,k.cls
  ⟩,?_⟩
 have x:sl.length=ds.length:=by have:=I.len;simpa using this
 have al:Al h S h' S:=⟨k.len,kp,λ_ q=>q,λ_ q=>.inl q⟩
 have G:∀(a:Nat) s d,sl[a]?=some s->ds[a]?=some d->m6 B B h' S (some s) (some d):=λa s d p r=>(I.sl a (some s) (some d) (by simp[p]) (by simp[r])).al (λm q=>(I.wS m q).1) al;have:∀{sl:List Sl} {ds:U2},sl.length=ds.length->(∀(a:Nat) s d,sl[a]?=some s->ds[a]?=some d->m6 B B h' S (some s) (some d))->oR h' S sl ds (sl.filterMap Sl.out):=λ{sl}=>by
  induction sl with
  |nil=>intro ds _ _;rfl
  |cons s sl H=>
   intro ds z A;cases ds with
   |nil=>simp at z
   |cons d ds=>
    have i1:=H (ds:=ds) (by simpa using z) λa s d p r=>A (a+1) s d (by simpa using p) (by simpa using r);have i2:=A 0 s d rfl rfl;cases s with
    |val v=>exact⟨d,ds,rfl,i1⟩
    |own l=>exact absurd i2 (by rintro⟨m,b,e,q,_⟩;exact q.2 q.1)
    |oo c l=>exact absurd i2 (by rintro⟨m,b,e,q,_⟩;exact q.2 q.1)
    |bor l=>obtain⟨m,b,e,_,g,j⟩:=i2;cases e;exact⟨_,ds,l,_,m,b,rfl,rfl,rfl,g,j,i1⟩
    |ro l=>obtain⟨m,b,e,_,g,j⟩:=i2;cases e;exact⟨_,ds,l,_,m,b,rfl,rfl,rfl,g,j,i1⟩
    |ob c l=>obtain⟨m,b,e,_,g,j⟩:=i2;cases e;exact⟨_,ds,l,_,m,b,rfl,rfl,rfl,g,j,i1⟩
    |oq c l=>obtain⟨m,b,e,_,g,j⟩:=i2;cases e;exact⟨_,ds,l,_,m,b,rfl,rfl,rfl,g,j,i1⟩
 exact this x G
theorem CD(hF:F.length<=Ev.xo)(w:Nat):∀n,qa (run F w n) (Ev.run F w n)/\vQ (dM F w n) (Ev.dM F w n)
 |0=>⟨λf r v os e=>(nomatch e),λf r c e=>(nomatch e)⟩
 |n+1=>by
  obtain⟨HP,HX⟩:=CD hF w n;have HE:=NU hF w n;have Y:vQ (dM F w (n+1)) (Ev.dM F w (n+1)):=λf r c e h S B ds F0=>by
   rw[kj]at e;rw[Ev.kj];cases z:F[f]? with
   |none=>rw[z]at e;cases e
   |some p=>
    rw[z]at e;simp only at e ⊢;split at e
    case isFalse=>cases e
    rename_i Z;have j:r.length=ds.length:=by have:=F0.len;simpa using this
    rw[OL (by lia)];exact vS HP HE HX (Ev.uE F w n) p.body e (GZ F0 j)
  refine⟨λf r v os e h S B ds F0=>?_,Y⟩;rw[gg]at e;cases z:F[f]? with
  |none=>
   rw[z]at e;rw[Ev.gg,z];exact SD Y e F0
  |some p=>
  rw[z]at e;simp only at e;split at e
  case isFalse=>cases e
  rename_i Z;have j:r.length=ds.length:=by have:=F0.len;simpa using this
  have f1:bh B B h S (cX p r) (Ev.cX p ds):=GZ F0 j;have fin:∀{g:Fl} {G:Fr},exs (run F w n) w p.body (cX p r)=.ok g G->∃K L M' x S',Ev.exs (Ev.run F w n) w p.body (Ev.cX p ds) h=.ok (K,L) x/\lQ x S' g K/\Tk B h S x S'/\oR x S' r ds (outs p.np G):=λ{g G} y=>by
   obtain⟨K,L,M',x,S',M,A,k⟩:=pH HP HE p.body y f1;refine⟨K,L,M',x,S',M,A,⟨k.tr.len,λm y1 N=>k.tr.keep m y1 N,k.tr.sub,λm q=>?_
    ,k.tr.cls
    ⟩,?_⟩
   .rcases k.tr.new m q with q|q|q
    .exact .inl q
    .exact .inr q
    .exact absurd q.1 q.2
   .unfold outs;rw[<-Z];refine xE (B:=B) (h0:=h) (S0:=S) j λa s d P Q=>?_;have ha:a<r.length:=(gL P).1;have h0:(cX p r)[a]?=some (some s):=by unfold cX;rw[jk (by simpa using ha)];simp[P]
    have b:locked G a=yJ (some s):=by rw[k.lk a];unfold locked;rw[h0]
    refine⟨F0.sl a _ _ (by simp[P]) (by simp[Q]),b,λC=>?_⟩;have hr:=k.rf a (by unfold locked;rw[h0];exact C);have hd:(Ev.cX p ds)[a]?=some (some d):=by unfold Ev.cX;rw[jk (by simpa[<-j]using ha)];simp[Q]
    rw[hd]at hr;cases N:G[a]? with
    |none=>unfold locked at b;rw[N]at b;rw[<-b]at C;cases C
    |some o=>
     have sr:=k.f.sl a _ _ N hr;have s0:=F0.sl a (some s) (some d) (by simp[P]) (by simp[Q]);unfold locked at b;rw[N,C]at b;rcases o with _|s'
     .cases b
     .cases s' with
      |val v=>cases b
      |own l=>cases b
      |bor l=>obtain⟨m,H,e,_,I,J⟩:=sr;cases e;exact⟨m,H,l,_,rfl,tL (s':=.bor l)
        s0 C rfl k.tr.cls
        I,J,rfl,rfl⟩
      |ro l=>obtain⟨m,H,e,_,I,J⟩:=sr;cases e;exact⟨m,H,l,_,rfl,tL (s':=.ro l)
        s0 C rfl k.tr.cls
        I,J,rfl,rfl⟩
      |oo c l=>cases b
      |ob c l=>obtain⟨m,H,e,_,I,J⟩:=sr;cases e;exact⟨m,H,l,_,rfl,tL (s':=.ob c l)
        s0 C rfl k.tr.cls
        I,J,rfl,rfl⟩
      |oq c l=>obtain⟨m,H,e,_,I,J⟩:=sr;cases e;exact⟨m,H,l,_,rfl,tL (s':=.oq c l)
        s0 C rfl k.tr.cls
        I,J,rfl,rfl⟩
  simp only[Ev.gg,z];have W:ds.length=p.np:=by lia
  rw[OL W];split at e
  .rename_i v' G y;cases e;obtain⟨K,L,M',x,S',M,A,k,X⟩:=fin y;simp only[lQ]at A;obtain⟨d,rfl,A⟩:=A;exact⟨d,x,S',by simp only[Ev.endOf,M,Ev.ak],A,k,X⟩
  .rename_i G y;cases e;obtain⟨K,L,M',x,S',M,A,k,X⟩:=fin y;simp only[lQ]at A;subst A;exact⟨.aN,x,S',by simp only[Ev.endOf,M,Ev.ak],rfl,k,X⟩
  .cases e
def NV{ns:Q1}(e:run F w n f [.val (.bY (ns.map V.int))]=some (.bl true,[]))(z:F.length<=1000:=by decide):∃h',Ev.run F w n f [.ref 0] [.bY (ns.map D.int)]=.ok (.bl true) h':=by
 have F0:bh (λ_=>False) (λ_=>False) [O.bY (ns.map D.int)] (λm=>m=0) ([Sl.val (.bY (ns.map V.int))].map some) ([D.ref 0].map some):=by
  refine⟨λm q=>⟨by subst q;simp,id,id⟩,λm q=>q.elim,λm q=>q.elim,rfl,λi o p c g=>?_,λi j o k m c g h r x y=>?_⟩
  .cases i with
   |zero=>
    simp at c g;subst c g;refine⟨.ref 0,rfl,?_⟩;exact⟨0,_,rfl,rfl,rfl,az.map (λ_=>by simp[Rep]) ns⟩
   |succ i=>simp at c
  .cases i with
   |zero=>simp at c;subst c;exists h
   |succ i=>simp at c
 obtain⟨d,h',S',a,b,_,_⟩:=(CD z w n).1 f _ _ _ e _ _ _ _ F0;subst b;exact⟨h',a⟩
def bE(h:n<=100000):n<=big:=aaN h (by decide)
section
variable{i j:Int}{a b:Θ}{x y:T0}{d e:V}{m n:Nat}{k l:Bool}
def cW(h:x.length<=big):eV x=some (.lst x):=by simp[eV,h]
def nJ(h:x.length<=big):ny x=some (.tup x):=by simp[ny,h]
@[simp] theorem lz:eV []=some (.lst []):=cW (bE (by simp))
@[simp] theorem Ec:ny []=some (.tup []):=nJ (bE (by simp))
@[simp] theorem qf{a}:eV [a]=some (.lst [a]):=cW (bE (by simp))
@[simp] theorem om{a}:ny [a]=some (.tup [a]):=nJ (bE (by simp))
@[simp] theorem zq{a b}:eV [a,b]=some (.lst [a,b]):=cW (bE (by simp))
@[simp] theorem eH{a b}:ny [a,b]=some (.tup [a,b]):=nJ (bE (by simp))
@[simp] theorem Ed{a b c}:ny [a,b,c]=some (.tup [a,b,c]):=nJ (bE (by simp))
@[simp] theorem cj:bO .add (.int i) (.int j)=some (.int (i+j)):=nd rfl
def qg(h:a.length+b.length<=100000):bO .add (.str a) (.str b)=some (.str (a++b)):=by delta bO;simp[bE h]
def qh(h:x.length+y.length<=100000):bO .add (.tup x) (.tup y)=some (.tup (x++y)):=by delta bO;simp[bE h]
def kP(h:x.length+y.length<=100000):bO .add (.lst x) (.lst y)=some (.lst (x++y)):=by delta bO;simp[cW (bE (show(x++y).length<=100000 by simpa using h))]
@[simp] theorem jT:bO .sub (.int i) (.int j)=some (.int (i - j)):=nd rfl
@[simp] theorem AG:bO .mul (.int i) (.int j)=if cK i j then some (.int (i*j))else none:=nd rfl
def Jy(z:0<=j)(h1:j<=1000)(h2:a.length<=1000):bO .mul (.str a) (.int j)=some (.str (rep j.toNat a)):=by delta bO;simp[z,h1,h2]
def Jz(z:0<=j)(h1:j<=1000)(h2:x.length<=1000)(I:(rep j.toNat x).length<=100000):bO .mul (.lst x) (.int j)=some (.lst (rep j.toNat x)):=by delta bO;simp[z,h1,h2,cW (bE I)]
@[simp] theorem JB:bO .fdiv (.int i) (.int j)=if 0<j/\j<1073741824 then some (.int (i / j))else none:=nd rfl
@[simp] theorem NW:bO .mod (.int i) (.int j)=if 0<j then some (.int (i % j))else none:=nd rfl
@[simp] theorem pI:cop .ne d e=(dQ deep d e).map (!·):=nd rfl
@[simp] theorem rV:dQ (n+1) (.int i) (.int j)=some (decide (i=j)):=by show some (i==j)=_;by_cases h:i=j<;>simp[h]
@[simp] theorem vU:dQ (n+1) (.str a) (.str b)=some (decide (a=b)):=by show some (a==b)=_;by_cases h:a=b<;>simp[h]
@[simp] theorem aad:dQ (n+1) .aN .aN=some true:=nd rfl
@[simp] theorem aae:dQ (n+1) (.str a) (.int i)=some false:=nd rfl
@[simp] theorem aaf:dQ (n+1) (.int i) (.str a)=some false:=nd rfl
@[simp] theorem aag:dQ (n+1) (.str a) .aN=some false:=nd rfl
@[simp] theorem aah:dQ (n+1) .aN (.str a)=some false:=nd rfl
@[simp] theorem SE:dQ (n+1) (.tup x) (.tup y)=cY (dQ n) x y:=nd rfl
@[simp] theorem NX:dQ deep (.int i) (.int j)=some (decide (i=j)):=rV
@[simp] theorem CF:dQ deep (.str a) (.str b)=some (decide (a=b)):=vU
@[simp] theorem xF:dQ deep (.tup x) (.tup y)=cY (dQ (18+1)) x y:=nd rfl
@[simp] theorem xG:dQ deep (.lst x) (.lst y)=cY (dQ (18+1)) x y:=nd rfl
@[simp] theorem pJ:cY f [] []=some true:=nd rfl
@[simp] theorem aai:cY f [] (d :: x)=some false:=nd rfl
@[simp] theorem aaj:cY f (d :: x) []=some false:=nd rfl
@[simp] theorem gy:cY f (d :: x) (e :: y)=(f d e).bind λb=>(cY f x y).bind λc=>some (b&&c):=nd rfl
theorem pK{α:Type}[DecidableEq α]{f:V->V->Option Bool}{g:α->V}(h:∀a b,f (g a) (g b)=some (decide (a=b))):∀l m:List α,cY f (l.map g) (m.map g)=some (decide (l=m))
 |[],[]=>by simp
 |[],_ :: _=>by simp
 |_ :: _,[]=>by simp
 |a :: l,b :: m=>by simp[h,pK h l m]
@[simp] theorem xH:fy (.str a) (.int i)=(bz a i).map λc=>.str [c]:=nd rfl
@[simp] theorem NY:fy (.lst x) (.int i)=bz x i:=nd rfl
@[simp] theorem NZ{lo hi:Option Int}:fQ (.tup x) lo hi=some (.tup (cut x lo hi)):=nd rfl
@[simp] theorem jt:fQ (.str a) lo hi=some (.str (cut a lo hi)):=nd rfl
@[simp] theorem CG{lo hi:Option Int}:fQ (.lst x) lo hi=eV (cut x lo hi):=nd rfl
def abI(h:a.length<=100000):cZ .len [.str a]=some (.int a.length):=by delta cZ;simp[bE h]
@[simp] theorem kQ:cZ .len [.lst x]=some (.int x.length):=nd rfl
@[simp] theorem CH:cZ .len [.bY x]=some (.int x.length):=nd rfl
@[simp] theorem N1:cZ .sum [.lst x]=(intsOf x).map λis=>.int is.sum:=nd rfl
@[simp] theorem AH:cZ .min [.int i,.int j]=some (.int (if j<i then j else i)):=nd rfl
@[simp] theorem G0:cZ .max [.int i,.int j]=some (.int (if j > i then j else i)):=nd rfl
@[simp] theorem N3:vG (.lst x)=some x:=nd rfl
@[simp] theorem CJ:toT (.lst x)=ny x:=nd rfl
def SG(z:0<=j)(h1:j<=100000):gH [.int j]=some (range 0 j.toNat):=by
 simp only[gH];rw[OL ⟨by lia,by lia⟩]
def Ef{α:Type}(g:α->Int)(l:List α):intsOf (l.map λx=>.int (g x))=some (l.map g):=by induction l<;>simp[intsOf, *]
def qi{α:Type}(g:α->Θ)(l:List α):strsOf (l.map λx=>.str (g x))=some (l.map g):=by induction l<;>simp[strsOf, *]
theorem rW:∀l:Γ,dh [] l=l.flatten
 |[]=>rfl
 |[s]=>by simp[dh]
 |s :: t :: r=>by simp[dh,rW (t :: r)]
@[simp] theorem aak:truthy (.bl k)=k:=nd rfl
@[simp] theorem ZU:truthy (.lst x) = !x.isEmpty:=nd rfl
def LY{l:Γ}(h:l.flatten.length<=100000):gM .join (.str []) [.lst (l.map V.str)]=some (.str l.flatten):=by
 have f:=qi (λx=>x) l;have:(l.map (·.length)).sum<=big:=bE (by rw[<-List.length_flatten];exact h);have c:strsOf (l.map V.str)=some l:=by simpa using qi (λx=>x) l
 delta gM;simp[vG,c,rW,this]
end
def gr{α:Type}(e:α->V)(g:α->V)(l:List α)(h:∀a∈l,f (e a)=some (some (g a))):cL f (l.map e)=some (l.map g):=by
 induction l with
 |nil=>rfl
 |cons a l b=>simp only[aaD,cL,h a (by simp),b λu c=>h u (by simp[c]),Option.bind];rfl
def AI{α:Type}(e:α->V)(p:α->Bool)(g:α->V)(l:List α)(h:∀a∈l,f (e a)=some (if p a then some (g a)else none)):cL f (l.map e)=some ((l.filter p).map g):=by
 induction l with
 |nil=>rfl
 |cons a l b=>
  simp only[aaD,cL,h a (by simp),b λu c=>h u (by simp[c]),Option.bind];cases z:p a<;>simp[z]
def Wp{α:Type}(r:R α)(Q:α->Fr->Prop):Prop:=∃a h,r=.ok a h/\Q a h
section
variable{α β:Type}{Q Q':α->Fr->Prop}
@[simp] theorem vV(a:α)(h:Fr):Wp (.ok a h) Q=Q a h:=propext ⟨λ⟨_,_,e,q⟩=>by exists e;exact q,λq=>⟨_,_,rfl,q⟩⟩
@[simp] theorem aal:Wp (.bad:R α) Q=False:=propext ⟨λq=>(by obtain⟨_,_,e,_⟩:=q;exists e),False.elim⟩
@[simp] theorem wp_bind(r:R β)(f:β->Fr->R α):Wp (r.bind f) Q=Wp r λa h=>Wp (f a h) Q:=by cases r<;>simp
def Wp.mono(h:Wp r Q)(f:∀a h,Q a h->Q' a h):Wp r Q':=by
 obtain⟨a,b,e,q⟩:=h;exact⟨a,b,e,f a b q⟩
end
def fl(I Q:Fr->Prop)(X:V->Fr->Prop):Fl->Fr->Prop
 |.nx,fr=>I fr
 |.ct,fr=>I fr
 |.bk,fr=>Q fr
 |.ret v,fr=>X v fr
section
variable{I J:Fr->Prop}{X:V->Fr->Prop}{fr:Fr}
@[simp] theorem dZ:fl I J X .nx fr=I fr:=nd rfl
end
theorem gn{α:Type}{e:α->V}(I:List α->List α->Fr->Prop)(turn:∀p a l fr,I p (a :: l) fr->Wp (f (e a) fr) (fl (I (p++[a]) l) (Q .nx) λv=>Q (.ret v)))(fin:∀p fr,I p [] fr->Q .nx fr):∀(l p:List α) (fr:Fr),I p l fr->Wp (forL f (l.map e) fr) Q
 |[],p,fr,i=>by simp only[ac5,forL,vV];exact fin p fr i
 |a :: l,p,fr,i=>by
  simp only[aaD,forL,wp_bind];refine(turn p a l fr i).mono λg b q=>?_;cases g with
  |nx=>exact gn I turn fin l _ b q
  |ct=>exact gn I turn fin l _ b q
  |bk=>exact(vV _ _).mpr q
  |ret x=>exact(vV _ _).mpr q
def CK(I:Nat->Fr->Prop)(turn:∀(k:Nat) fr,k<N->I k fr->Wp (f (.int (lo+(k:Nat))) fr) (fl (I (k+1)) (Q .nx) λv=>Q (.ret v)))(fin:∀fr,I N fr->Q .nx fr)(i:I 0 fr):Wp (forL f (range lo N) fr) Q:=by
 have h:=gn (λp l fr=>∃k,k<=N/\p=List.range k/\p++l=List.range N/\I k fr)
  (λp a l fr ⟨k,e,d,c,q⟩=>by
   subst d;have b:=aaL List.length c;simp at b;have j:a=k:=by
    have:=aaL (·[k]?) c;rw[abM (by lia)]at this;simpa using this
   subst j;refine(turn a fr (by lia) q).mono λg r z=>?_;cases g with
   |nx=>exact⟨a+1,by lia,by simp[ab9],by simpa using c,z⟩
   |ct=>exact⟨a+1,by lia,by simp[ab9],by simpa using c,z⟩
   |bk=>exact z
   |ret x=>exact z)
  (λp fr ⟨k,e,d,c,q⟩=>by
   subst d;have b:=aaL List.length c;simp at b;subst b;exact fin fr q) (List.range N) [] fr ⟨0,abu _,rfl,by simp,i⟩
 exact h
theorem AJ{t:Fr->R Bool}{f:Fr->R Fl}{Q:Fl->Fr->Prop}(I:Nat->Fr->Prop)(turn:∀k fr,I k fr->Wp (t fr) λb af=>if b then Wp (f af) (fl (λao=>∃j,j<k/\I j ao) (Q .nx) λv=>Q (.ret v))else Q .nx af):∀(n k:Nat) (fr:Fr),k<n->I k fr->Wp (g7 t f n fr) Q
 |0,k,fr,hk,_=>by lia
 |n+1,k,fr,hk,i=>by
  simp only[g7,wp_bind];refine(turn k fr i).mono λb af q=>?_;cases b with
  |false=>simpa using q
  |true=>
   simp only[aa0,wp_bind]at q ⊢;refine q.mono λg ao z=>?_;cases g with
   |nx=>obtain⟨j,a,z⟩:=z;exact AJ I turn n j ao (by lia) z
   |ct=>obtain⟨j,a,z⟩:=z;exact AJ I turn n j ao (by lia) z
   |bk=>exact(vV _ _).mpr z
   |ret x=>exact(vV _ _).mpr z
def fin(fn:Fn)(ds:List Sl):R Fl->Option (V×List (T0))
 |.ok (.ret v) fr=>some (v,outs fn.np fr)
 |.ok .nx fr=>some (.aN,outs fn.np fr)
 |_=>GJ fn ds
@[simp] theorem N4:fin fn ds (.ok (.ret v) fr)=some (v,outs fn.np fr):=nd rfl
def run_eq(z:F[f]?=some fn)(I:ds.length=fn.np):run F w (n+1) f ds=fin fn ds (exs (run F w n) w fn.body (cX fn ds)):=by
 simp only[gg,z,I,aa0];cases exs (run F w n) w fn.body (cX fn ds)with
 |bad=>rfl
 |ok g a=>cases g<;>rfl
def bK(z:F[f]?=some fn)(I:ds.length=fn.np)(q:Wp (exs (run F w n) w fn.body (cX fn ds)) λg fr=>g=.ret v/\outs fn.np fr=os):run F w (n+1) f ds=some (v,os):=by
 rw[run_eq z I];obtain⟨g,fr,e,rfl,rfl⟩:=q;rw[e];rfl
section
variable{P:aJ}{w:Nat}{fr:Fr}{k:Bool}{a b c:E}{es:Es}{ss sa sb:Ss}{st:S}{lo hi:Eo}{it:It}
@[simp] theorem Zv:ev P k (.c d) fr=R.of (ofD d) fr:=nd rfl
@[simp] theorem SH:ev P k (.v i) fr=R.of (jS k fr i) fr:=nd rfl
@[simp] theorem SI:ev P k (.tup es) fr=(bu P false es fr).bind λds af=>R.of (ny ds) af:=nd rfl
@[simp] theorem SJ:ev P k (.lst es) fr=(bu P false es fr).bind λds af=>R.of (eV ds) af:=nd rfl
@[simp] theorem SK:ev P k (.bin o a b) fr=(ev P (kf a (aL b)) a fr).bind λx af=>(ev P true b af).bind λy ao=>R.of (bO o x y) ao:=nd rfl
@[simp] theorem SM:ev P k (.cmp o a b) fr=(ev P (kf a (aL b)) a fr).bind λx af=>(ev P true b af).bind λy ao=>R.of ((cop o x y).map .bl) ao:=nd rfl
@[simp] theorem VC{o p:bA}:ev P k (.ch o p a b c) fr=(ev P (kf a (aL b)) a fr).bind λx af=>(ev P (kf b (aL c)) b af).bind λy ao=>(R.of (cop o x y) ao).bind λk cB=>
   if k then (ev P true c cB).bind λz jz=>R.of ((cop p y z).map .bl) jz else .ok (.bl false) cB:=by rw[ev]
def ntD:V->Fr->R V:=λx d=>match x with
 |.bl b=>.ok (.bl (!b)) d
 |_=>.bad
@[simp] theorem VD:ev P k (.nt a) fr=(ev P true a fr).bind ntD:=nd rfl
def Zw:V->Fr->R V:=λx d=>match x with
 |.int i=>.ok (.int (-i)) d
 |_=>.bad
@[simp] theorem SN:ev P k (.neg a) fr=(ev P true a fr).bind Zw:=nd rfl
@[simp] theorem SO:ev P k (.fV a b c) fr=(bB P a fr).bind λt af=>if t then ev P k b af else ev P k c af:=nd rfl
@[simp] theorem VE:ev P k (.ix a b) fr=(ev P (kf a (aL b)) a fr).bind λx af=>(ev P true b af).bind λy ao=>R.of (fy x y) ao:=nd rfl
@[simp] theorem VF:ev P k (.sl a lo hi) fr=(ev P (kf a (kq lo++kq hi)) a fr).bind λx af=>(jy P lo af).bind λl ao=>(jy P hi ao).bind λu cB=>R.of (fQ x l u) cB:=nd rfl
@[simp] theorem VG:ev P k (.cl f es) fr=(eW P es fr).bind λas af=>cz P f as af:=nd rfl
@[simp] theorem VH:ev P k (.bi g es) fr=(bu P true es fr).bind λds af=>R.of (cZ g ds) af:=nd rfl
def JD(m:ME)(i:Nat):List V->Fr->R V:=λds d=>match d[i]? with
 |some (some (.own l))=>match nY m l ds with
  |some (v,l')=>.ok v (d.set i (some (.own l')))
  |none=>.bad
 |some (some (.bor l))=>match nY m l ds with
  |some (v,l')=>.ok v (d.set i (some (.bor l')))
  |none=>.bad
 |_=>.bad
def SQ(I:ly m=true):ev P k (.me m (.v i) es) fr=if (lent fr i).isSome then (bu P (GH m) es fr).bind (JD m i)else .bad:=by
 rw[ev,OL I];unfold jK;cases z:(lent fr i).isSome<;>simp[z]<;>rfl
def SS(z:ly m=false):ev P k (.me m a es) fr=(ev P (kf a (dB es)) a fr).bind λx af=>(bu P true es af).bind λds ao=>R.of (gM m x ds) ao:=by rw[ev,z];rfl
def g9(P:aJ)(elt:E)(t:T)(cond:Eo)(fr:Fr):V->Option (Option V):=λd=>match cC t d (iZ fr)with
 |none=>none
 |some e=>match lM P cond e with
  |.ok c _=>if c then (match ev P false elt e with|.ok x _=>some (some x)|.bad=>none)else some none
  |.bad=>none
@[simp] theorem w9{cond:Eo}:ev P k (.comp elt t it cond) fr=(fc P true it fr).bind λs af=>if undef t af then R.of ((cL (g9 P elt t cond af) s).bind eV) af else .bad:=nd rfl
@[simp] theorem SV:ev P k (.jx it) fr=(fc P true it fr).bind λs af=>R.of (eV s) af:=nd rfl
@[simp] theorem SW:ev P k (.kh a) fr=(ev P true a fr).bind λx af=>R.of (toT x) af:=nd rfl
@[simp] theorem N5:bu P k .nil fr=.ok [] fr:=nd rfl
@[simp] theorem JF:bu P k (.cons a es) fr=(ev P (k&&kf a (dB es)) a fr).bind λd af=>(bu P k es af).bind λds ao=>.ok (d :: ds) ao:=nd rfl
@[simp] theorem N6:eW P .nil fr=.ok [] fr:=nd rfl
def Eg(P:aJ)(a:E)(es:Es)(fr:Fr):Option Nat->R (List (Nat ⊕ V))
 |some i=>(eW P es fr).bind λr e=>.ok (.inl i :: r) e
 |none=>(ev P false a fr).bind λd e=>(eW P es e).bind λr f=>.ok (.inr d :: r) f
@[simp] theorem Eh:Eg P a es fr (some i)=(eW P es fr).bind λr af=>.ok (.inl i :: r) af:=nd rfl
@[simp] theorem Ei:Eg P a es fr none=(ev P false a fr).bind λd af=>(eW P es af).bind λr ao=>.ok (.inr d :: r) ao:=nd rfl
@[simp] theorem AK:eW P (.cons a es) fr=Eg P a es fr (jK fr a):=by rw[eW];cases jK fr a<;>rfl
@[simp] theorem SX:jy P .no fr=.ok none fr:=nd rfl
@[simp] theorem N7:jy P (.yes a) fr=(ev P true a fr).bind λd af=>R.of ((intOf d).map some) af:=nd rfl
@[simp] theorem SY:lM P .no fr=.ok true fr:=nd rfl
@[simp] theorem N8:lM P (.yes a) fr=bB P a fr:=nd rfl
@[simp] theorem G1:bB P (.an a b) fr=(bB P a fr).bind λk af=>if k then bB P b af else .ok false af:=RJ
@[simp] theorem CL:bB P (.orr a b) fr=(bB P a fr).bind λk af=>if k then .ok true af else bB P b af:=RK
@[simp] theorem S5:bB P (.nt a) fr=(bB P a fr).bind λk af=>.ok (!k) af:=RL
def S6:V->Fr->R Bool:=λx d=>.ok (truthy x) d
@[simp] theorem N9:S6 x fr=.ok (truthy x) fr:=nd rfl
@[simp] theorem Oa:fc P k (.seq a) fr=(src k fr a (ev P k a fr)).bind λx af=>R.of (gZ x) af:=nd rfl
@[simp] theorem Ob:fc P k (.kI es) fr=(bu P true es fr).bind λds af=>R.of (gH ds) af:=nd rfl
@[simp] theorem Oc:fc P k (.rev a) fr=(ev P true a fr).bind λx af=>R.of ((Ea x).map λs=>s.reverse) af:=nd rfl
def S7(i:Nat)(af:Fr):V->R Fl
 |.lst l=>(R.of (put af i (.own l)) af).bind λd _=>.ok .nx d
 |_=>.bad
@[simp] theorem JH{i:Nat}{l:T0}:S7 i fr (.lst l)=(R.of (put fr i (.own l)) fr).bind λao _=>.ok .nx ao:=nd rfl
@[simp] theorem ZV(h:∀j,a≠.v j):pZ a fr=fr:=by
 cases a<;>first|rfl|exact absurd rfl (h _)
@[simp] theorem AL{i:Nat}:ex P w (.set i a) fr=(ev P false a (pZ a fr)).bind λx af=>if isNew a then S7 i af x else (R.of (put af i (.val x)) af).bind λao _=>.ok .nx ao:=by
 rw[ex];rfl
@[simp] theorem Od{l:Θ}:ex P w (.ki l a) fr=(ev P false a fr).bind λx af=>(R.of (cC (.many l) x af) af).bind λao _=>.ok .nx ao:=by rw[ex]
@[simp] theorem S8:ex P w (.exp a) fr=(ev P true a fr).bind λ_ af=>.ok .nx af:=by rw[ex]
@[simp] theorem S9:ex P w (.ret a) fr=(ev P false a (fK fr)).bind λx af=>.ok (.ret x) af:=by rw[ex]
@[simp] theorem Tc:ex P w (.iff a sa sb) fr=(bB P a fr).bind λk af=>if k then exs P w sa af else exs P w sb af:=by rw[ex]
@[simp] theorem Td:ex P w .cnt fr=.ok .ct fr:=by rw[ex]
def turnF(P:aJ)(w:Nat)(t:T)(b:Ss):V->Fr->R Fl:=λd e=>match cC t d e with
 |some f=>exs P w b f
 |none=>.bad
@[simp] theorem FJ:ex P w (.for t it ss) fr=(fc P false it (nZ (itv it) fr)).bind λs af=>forL (turnF P w t ss) s af:=by rfl
@[simp] theorem Oe:exs P w .nil fr=.ok .nx fr:=by rw[exs]
def LZ(P:aJ)(w:Nat)(ss:Ss):Fl->Fr->R Fl:=λp d=>match p with
 |.nx=>exs P w ss d
 |p=>.ok p d
@[simp] theorem Zx:LZ P w ss .nx fr=exs P w ss fr:=nd rfl
@[simp] theorem JJ:exs P w (.cons st ss) fr=(ex P w st fr).bind (LZ P w ss):=by rfl
end
def rY{vs:T0}(h:P f (vs.map .val)=some (v,[])):cz P f (vs.map .inr) fr=.ok v fr:=by
 have a:∀vs:T0,bC (vs.map .inr)=[]:=λvs=>by induction vs<;>simp[bC, *]
 have b:∀vs:T0,args fr (vs.map .inr)=some (vs.map .val):=λvs=>by induction vs<;>simp[args, *]
 simp[cz,a,b,h,back]
section
variable{P:aJ}{f:Nat}{fr:Fr}{a b c v:V}
def ig(h:P f [.val a]=some (v,[])):cz P f [.inr a] fr=.ok v fr:=rY (vs:=[a]) h
def call2(h:P f [.val a,.val b]=some (v,[])):cz P f [.inr a,.inr b] fr=.ok v fr:=rY (vs:=[a,b]) h
def iR(h:P f [.val a,.val b,.val c]=some (v,[])):cz P f [.inr a,.inr b,.inr c] fr=.ok v fr:=rY (vs:=[a,b,c]) h
end
section
variable{fr:Fr}{i:Nat}{k:Bool}{s:Sl}{v:V}{l:T0}
def G3(k:Bool):Option (T2)->Option V
 |some (some (.val v))=>some v
 |some (some (.own l))=>if k then some (.lst l)else none
 |some (some (.bor l))=>if k then some (.lst l)else none
 |some (some (.ro l))=>if k then some (.lst l)else none
 |_=>none
@[simp] theorem Of:jS k fr i=G3 k fr[i]?:=by unfold jS G3;split<;>simp_all
@[simp] theorem ZW:G3 k (some (some (.val v)))=some v:=nd rfl
@[simp] theorem ZX:G3 k (some (some (.own l)))=if k then some (.lst l)else none:=nd rfl
@[simp] theorem VI:src k fr (.v i) r=R.of (Aq k fr i) fr:=nd rfl
def Te:Option (T2)->T2
 |some (some s)=>s.lend
 |_=>none
@[simp] theorem Oh:lent fr i=Te fr[i]?:=by unfold lent Te;split<;>simp_all
@[simp] theorem ZY:Te (some (some (.own l)))=some (.bor l):=nd rfl
def CM(fr:Fr)(i:Nat)(s:Sl):Option (T2)->Option Fr
 |some (some (.bor _))=>none
 |some (some (.ro _))=>none
 |some (some (.ob _ _))=>none
 |some (some (.oq _ _))=>none
 |_=>some (fr.set i (some s))
@[simp] theorem G4:put fr i s=CM fr i s fr[i]?:=by unfold put CM;split<;>simp_all
@[simp] theorem ZZ:CM fr i s (some (some (.val v)))=some (fr.set i (some s)):=nd rfl
@[simp] theorem Z0:CM fr i s (some (some (.own l)))=some (fr.set i (some s)):=nd rfl
@[simp] theorem Ej{l:Θ}:cC (.many l) (.tup x) fr=dJ l x fr:=nd rfl
@[simp] theorem Ek:dJ [] [] fr=some fr:=nd rfl
@[simp] theorem BA{l:Θ}:dJ (i :: l) (v :: x) fr=(put fr i (.val v)).bind (dJ l x):=nd rfl
@[simp] theorem Zy:Sl.dz (.val v)=.val v:=nd rfl
@[simp] theorem Zz:Sl.dz (.own l)=.val (.lst l):=nd rfl
def WJ(fr:Fr)(i:Nat):Option (T2)->Fr
 |some (some s)=>fr.set i (some s.walk)
 |_=>fr
@[simp] theorem WK:nZ [] fr=fr:=nd rfl
@[simp] theorem VJ{l:Θ}:nZ (i :: l) fr=nZ l (WJ fr i fr[i]?):=by
 show List.foldl _ _ _=_;simp only[aba];unfold nZ WJ
 congr 1
@[simp] theorem aau:itv (.seq (.v i))=[i]:=nd rfl
def jL(m:ME)(i:Nat)(ds:T0)(fr:Fr):Option (T2)->R V
 |some (some (.own l))=>match nY m l ds with
  |some (v,l')=>.ok v (fr.set i (some (.own l')))
  |none=>.bad
 |some (some (.bor l))=>match nY m l ds with
  |some (v,l')=>.ok v (fr.set i (some (.bor l')))
  |none=>.bad
 |_=>.bad
@[simp] theorem Oi:JD m i ds fr=jL m i ds fr fr[i]?:=by unfold JD jL;split<;>simp_all<;>rfl
def tM(h:l.length<100000):jL .append i [d] fr (some (some (.own l)))=.ok .aN (fr.set i (some (.own (l++[d])))):=by
 simp[jL,nY,WU h (show 100000<=big by decide)]
def Oj(h:l.length<100000):jL .append i [d] fr (some (some (.bor l)))=.ok .aN (fr.set i (some (.bor (l++[d])))):=by
 simp[jL,nY,WU h (show 100000<=big by decide)]
def mS(h:l.length+d.length<=100000):jL .extend i [.lst d] fr (some (some (.own l)))=.ok .aN (fr.set i (some (.own (l++d)))):=by
 simp[jL,nY,bE h]
def xJ:jL .pop i [] fr (some (some (.own (l++[v]))))=.ok v (fr.set i (some (.own l))):=by
 simp[jL,nY]
def Ol:jL .pop i [] fr (some (some (.bor (l++[v]))))=.ok v (fr.set i (some (.bor l))):=by
 simp[jL,nY]
end
def vo(o:T2):Prop:=o=none\/∃y,o=some (.val y)
theorem vo.none:vo none:=.inl rfl
theorem vo.val:vo (some (.val v)):=.inr ⟨v,rfl⟩
def Tf(h:vo b):CM fr i s (some b)=some (fr.set i (some s)):=by rcases h with rfl|⟨y,rfl⟩<;>rfl
def dF(h:vo b):b.map Sl.dz=b:=by rcases h with rfl|⟨y,rfl⟩<;>rfl
def VL(f:V->Fr->R Fl)(ds:T0):Fl->Fr->R Fl:=λp a=>match p with
 |.nx=>forL f ds a
 |.ct=>forL f ds a
 |.bk=>.ok .nx a
 |.ret x=>.ok (.ret x) a
section
variable{f:V->Fr->R Fl}{ds:T0}{d:V}{fr:Fr}
@[simp] theorem yp:forL f (d :: ds) fr=(f d fr).bind (VL f ds):=nd rfl
end
section
variable{a b c:E}{es:Es}{lo hi:Eo}{it:It}
@[simp] theorem aav{d:D}:aL (.c d)=[]:=rfl
@[simp] theorem aaw{i:Nat}:aL (.v i)=[]:=rfl
@[simp] theorem Z1:aL (.tup es)=dB es:=rfl
@[simp] theorem Z2:aL (.lst es)=dB es:=rfl
@[simp] theorem Z3{o:bN}:aL (.bin o a b)=aL a++aL b:=rfl
@[simp] theorem Z4{o:bA}:aL (.cmp o a b)=aL a++aL b:=rfl
@[simp] theorem aam{o p:bA}:aL (.ch o p a b c)=aL a++(aL b++aL c):=rfl
@[simp] theorem aan:aL (.nt a)=aL a:=rfl
@[simp] theorem Z5:aL (.neg a)=aL a:=rfl
@[simp] theorem aao:aL (.an a b)=aL a++aL b:=rfl
@[simp] theorem Z6:aL (.orr a b)=aL a++aL b:=rfl
@[simp] theorem Z7:aL (.fV a b c)=aL a++(aL b++aL c):=rfl
@[simp] theorem aap:aL (.ix a b)=aL a++aL b:=rfl
@[simp] theorem aaq:aL (.sl a lo hi)=aL a++(kq lo++kq hi):=rfl
@[simp] theorem aar{f:Nat}:aL (.cl f es)=dB es++fN es:=rfl
@[simp] theorem aas{f:BI}:aL (.bi f es)=dB es:=rfl
@[simp] theorem aat{m:ME}:aL (.me m a es)=aL a++(dB es++LM m a):=rfl
@[simp] theorem ZA{t:T}:aL (.comp a t it lo)=Ao it:=rfl
@[simp] theorem Z8:aL (.jx it)=Ao it:=rfl
@[simp] theorem Z9:aL (.kh a)=aL a:=rfl
end
def AM{α:Type}{l:List α}(z:0<=i):bz l i=l[i.toNat]?:=by
 unfold bz fO;rw[OL z];split
 .rfl
 .rw[aaO (by lia)];rfl
@[simp] theorem mP{α:Type}{l:List α}{n:Nat}:bz l (n:Int)=l[n]?:=by rw[AM (by lia)];simp
def AN{α:Type}{l:List α}:bz l (-1:Int)=l.getLast?:=by
 unfold bz fO;cases l with
 |nil=>rfl
 |cons a l=>
  have b:¬ 0<=-1:=by lia
  have c:-(((a :: l).length):Int)<=-1:=by simp;lia
  rw[aaH b,OL c,List.getLast?_eq_getElem?];simp only[Option.bind]
  congr 1
  lia
abbrev tN:Fn:=⟨2,2,(.cons (.iff (.cmp .eq (.v 0) (.lst .nil)) (.cons (.ret (.bin .mul (.c (.int 7)) (.v 1))) .nil) .nil) (.cons (.ret (.bin .add (.ix (.v 0) (.bin .mod (.v 1) (.bi .len (.cons (.v 0) .nil)))) (.bin .mul (.c (.int 6553)) (.bin .fdiv (.v 1) (.bi .len (.cons (.v 0) .nil)))))) .nil))⟩
abbrev rZ(c:Nat):Fn:=⟨3,4,(.cons (.set 3 (.bin .mod (.bin .add (.bin .mul (.bin .mod (.cl c (.cons (.v 0) (.cons (.v 1) .nil))) (.c (.int 2147483563))) (.c (.int 69069))) (.bin .mul (.c (.int 104723)) (.bin .add (.v 1) (.c (.int 1))))) (.c (.int 2147483563)))) (.cons (.set 3 (.bin .mod (.bin .add (.bin .mul (.v 3) (.v 3)) (.bin .fdiv (.v 3) (.c (.int 3)))) (.c (.int 2147483399)))) (.cons (.ret (.bin .mod (.bin .fdiv (.bin .mod (.bin .add (.bin .mul (.v 3) (.v 3)) (.bin .fdiv (.v 3) (.c (.int 7)))) (.c (.int 2147483647))) (.c (.int 11))) (.v 2))) .nil)))⟩
def zu(ns:Q1)(k:Int):Int:=if ns=[]then 7*k else (ns[(k % ns.length).toNat]?.getD 0)+6553*(k / ns.length)
def dg(ns:Q1)(k many:Int):Int:=
 let c:=(zu ns k % 2147483563*69069+104723*(k+1)) % 2147483563
 let c:=(c*c+c / 3) % 2147483399
 (c*c+c / 7) % 2147483647 / 11 % many
def pL(ns:Q1)(k:Int)(h:0<many):0<=dg ns k many:=Int.emod_nonneg _ (by lia)
def lR(ns:Q1)(k:Int)(h:0<many):dg ns k many<many:=adK _ h
def j0(ns:Q1):V:=.bY (ns.map V.int)
def Om(ns:Q1):cY (dQ (18+1)) (ns.map V.int) []=some (decide (ns=[])):=by cases ns<;>simp
section
variable{P:aJ}{w:Nat}{fr af ao cB:Fr}{k b:Bool}{a e c:E}{es:Es}{ss sa sb:Ss}{st:S}{lo hi:Eo}{it:It}{v x y z:V}{vs:T0}{i:Nat}{l:T0}{Q:Fl->Fr->Prop}
def aG(h:ofD d=some v):ev P k (.c d) fr=.ok v fr:=by rw[Zv,h];rfl
def au(h:jS k fr i=some v):ev P k (.v i) fr=.ok v fr:=by rw[SH,h];rfl
def cF(h:bu P false es fr=.ok vs af)(h2:ny vs=some v):ev P k (.tup es) fr=.ok v af:=by rw[SI,h,ak,h2];rfl
def fB(h:bu P false es fr=.ok vs af)(h2:eV vs=some v):ev P k (.lst es) fr=.ok v af:=by rw[SJ,h,ak,h2];rfl
def aU(h:ev P (kf a (aL e)) a fr=.ok x af)(h2:ev P true e af=.ok y ao)(I:bO o x y=some v):ev P k (.bin o a e) fr=.ok v ao:=by rw[SK,h,ak,h2,ak,I];rfl
def bT(h:ev P (kf a (aL e)) a fr=.ok x af)(h2:ev P true e af=.ok y ao)(I:cop o x y=some b):ev P k (.cmp o a e) fr=.ok (.bl b) ao:=by rw[SM,h,ak,h2,ak,I];rfl
def ZC(h:ev P true a fr=.ok (.bl b) af):ev P k (.nt a) fr=.ok (.bl (!b)) af:=by rw[VD,h];rfl
def mG(h:ev P true a fr=.ok (.int j) af):ev P k (.neg a) fr=.ok (.int (-j)) af:=by rw[SN,h];rfl
def fC(h:bB P a fr=.ok b af)(h2:b=true->ev P k e af=.ok v ao)(I:b=false->ev P k c af=.ok v ao):ev P k (.fV a e c) fr=.ok v ao:=by
 rw[SO,h,ak];cases b with
 |true=>exact h2 rfl
 |false=>exact I rfl
def cG(h:ev P (kf a (aL e)) a fr=.ok x af)(h2:ev P true e af=.ok y ao)(I:fy x y=some v):ev P k (.ix a e) fr=.ok v ao:=by rw[VE,h,ak,h2,ak,I];rfl
def oU(h:ev P (kf a (kq lo++kq hi)) a fr=.ok x af)(h2:jy P lo af=.ok p ao)(I:jy P hi ao=.ok q cB)(Z:fQ x p q=some v):ev P k (.sl a lo hi) fr=.ok v cB:=by rw[VF,h,ak,h2,ak,I,ak,Z];rfl
def cR(h:eW P es fr=.ok as af)(h2:cz P f as af=.ok v ao):ev P k (.cl f es) fr=.ok v ao:=by rw[VG,h,ak];exact h2
def eF(h:bu P true es fr=.ok vs af)(h2:cZ g vs=some v):ev P k (.bi g es) fr=.ok v af:=by rw[VH,h,ak,h2];rfl
def qj(I:ly m=true)(Z:(lent fr i).isSome=true)(h:bu P (GH m) es fr=.ok vs af)(h2:jL m i vs af af[i]?=.ok v ao):ev P k (.me m (.v i) es) fr=.ok v ao:=by
 rw[SQ I,OL Z,h,ak,Oi];exact h2
def El(I:ly m=false)(h:ev P (kf a (dB es)) a fr=.ok x af)(h2:bu P true es af=.ok vs ao)(Z:gM m x vs=some v):ev P k (.me m a es) fr=.ok v ao:=by rw[SS I,h,ak,h2,ak,Z];rfl
def jc{cond:Eo}(h:fc P true it fr=.ok vs af)(I:undef t af=true)(h2:cL (g9 P a t cond af) vs=some l)(Z:eV l=some v):ev P k (.comp a t it cond) fr=.ok v af:=by
 rw[w9,h,ak,OL I,h2];show R.of (eV l) af=_;rw[Z];rfl
def zv(h:fc P true it fr=.ok vs af)(h2:eV vs=some v):ev P k (.jx it) fr=.ok v af:=by rw[SV,h,ak,h2];rfl
def zw(h:ev P true a fr=.ok x af)(h2:toT x=some v):ev P k (.kh a) fr=.ok v af:=by rw[SW,h,ak,h2];rfl
def ay:bu P k .nil fr=.ok [] fr:=N5
def aq(h:ev P (k&&kf a (dB es)) a fr=.ok v af)(h2:bu P k es af=.ok vs ao):bu P k (.cons a es) fr=.ok (v :: vs) ao:=by rw[JF,h,ak,h2];rfl
def aO:eW P .nil fr=.ok [] fr:=N6
def aR(hi:jK fr a=none)(h:ev P false a fr=.ok v af)(h2:eW P es af=.ok as ao):eW P (.cons a es) fr=.ok (.inr v :: as) ao:=by rw[AK,hi,Ei,h,ak,h2];rfl
def fF(hi:jK fr a=some i)(h2:eW P es fr=.ok as ao):eW P (.cons a es) fr=.ok (.inl i :: as) ao:=by rw[AK,hi,Eh,h2];rfl
def vW:jy P .no fr=.ok none fr:=SX
def fW(h:ev P true a fr=.ok (.int j) af):jy P (.yes a) fr=.ok (some j) af:=by rw[N7,h];rfl
def r8(h:bB P a fr=.ok false af):bB P (.an a e) fr=.ok false af:=by rw[G1,h];rfl
def jd(h:bB P a fr=.ok true af)(h2:bB P e af=.ok b2 ao):bB P (.an a e) fr=.ok b2 ao:=by rw[G1,h];exact h2
def AO(h:bB P a fr=.ok true af):bB P (.orr a e) fr=.ok true af:=by rw[CL,h];rfl
def nK(h:bB P a fr=.ok false af)(h2:bB P e af=.ok b2 ao):bB P (.orr a e) fr=.ok b2 ao:=by rw[CL,h];exact h2
def qk(h:bB P a fr=.ok b af):bB P (.nt a) fr=.ok (!b) af:=by rw[S5,h];rfl
def plainT:E->Bool
 |.an _ _=>false
 |.orr _ _=>false
 |.nt _=>false
 |_=>true
def aF(I:plainT a=true)(h:ev P true a fr=.ok x af)(h2:truthy x=b):bB P a fr=.ok b af:=by
 have:bB P a fr=(ev P true a fr).bind S6:=by
  cases a<;>first | (exists I;done)|exact fE rfl
 rw[this,h,ak,N9,h2]
def ef(h:src k fr a (ev P k a fr)=.ok x af)(h2:gZ x=some vs):fc P k (.seq a) fr=.ok vs af:=by rw[Oa,h,ak,h2];rfl
def er(h:Aq k fr i=some v):src k fr (.v i) r=.ok v fr:=by rw[VI,h];rfl
def vX(h:bu P true es fr=.ok vs af)(h2:gH vs=some l):fc P k (.kI es) fr=.ok l af:=by rw[Ob,h,ak,h2];rfl
def G5(h:ev P true a fr=.ok x af)(h2:Ea x=some vs):fc P k (.rev a) fr=.ok vs.reverse af:=by rw[Oc,h,ak,h2];rfl
def CN(h:ev P false a fr=.ok v af):pZ a fr=fr:=by
 cases a with
 |v j=>
  simp only[SH]at h;show fr.modify j _=fr;apply abv;intro i;rw[acL];cases z:fr[i]? with
  |none=>rfl
  |some o=>
   show some (if j=i then Option.map Sl.dz o else o)=some o;by_cases d:j=i
   .subst d;rw[OL rfl];unfold jS at h;rw[z]at h;rcases o with _|s
    .rfl
    .cases s with
     |own l=>exists h
     |_=>rfl
   .rw[aaH d]
 |_=>rfl
def Tg{j:Nat}{o:T2}{l:T0}(I:fr[j]?=some o)(ho:o=some (.own l)\/o=some (.val (.lst l)))(Z:put (fr.set j (some (.val (.lst l)))) i (.val (.lst l))=some ao)(q:Q .nx ao):Wp (ex P w (.set i (.v j)) fr) Q:=by
 have e:pZ (.v j) fr=fr.set j (some (.val (.lst l))):=by
  show fr.modify j _=_;apply abv;intro i;rw[acL];by_cases hi:j=i
  .subst hi;obtain⟨d,-⟩:=gL I;rw[I,WV d];show some (if j=j then Option.map Sl.dz o else o)=_;rw[OL rfl];rcases ho with rfl|rfl<;>rfl
  .rw[T7 hi];cases z:fr[i]? with
   |none=>rfl
   |some f=>
    show some (if j=i then Option.map Sl.dz f else f)=some f;rw[aaH hi]
 have g:ev P false (.v j) (fr.set j (some (.val (.lst l))))=.ok (.lst l) (fr.set j (some (.val (.lst l)))):=by
  obtain⟨d,-⟩:=gL I;refine au ?_;unfold jS;rw[WV d]
 rw[AL,e,g,ak,show isNew (.v j)=false from rfl,Z];exact⟨_,_,rfl,q⟩
def fL{P:aJ}{fr:Fr}{i:Nat}{d:Ev.D}{x y:V}{o:Ev.bA}{k b:Bool}(h1:jS (kf (.v i) (aL (.c d))) fr i=some x)(h2:ofD d=some y)(I:cop o x y=some k)(Z:k=b):bB P (.cmp o (.v i) (.c d)) fr=.ok b fr:=aF rfl (bT (au h1) (aG h2) I) Z
def aK(h:ev P false a fr=.ok v af)(hn:isNew a=false)(I:put af i (.val v)=some ao)(q:Q .nx ao):Wp (ex P w (.set i a) fr) Q:=by
 rw[AL,CN h,h,ak,hn,I];exact⟨_,_,rfl,q⟩
def gQ(h:ev P false a fr=.ok (.lst l) af)(hn:isNew a=true)(I:put af i (.own l)=some ao)(q:Q .nx ao):Wp (ex P w (.set i a) fr) Q:=by
 rw[AL,CN h,h,ak,hn,OL rfl,JH,I];exact⟨_,_,rfl,q⟩
def Ti{is:Θ}(h:ev P false a fr=.ok v af)(I:cC (.many is) v af=some ao)(q:Q .nx ao):Wp (ex P w (.ki is a) fr) Q:=by
 rw[Od,h,ak,I];exact⟨_,_,rfl,q⟩
def eK(h:ev P true a fr=.ok v af)(q:Q .nx af):Wp (ex P w (.exp a) fr) Q:=by rw[S8,h];exact⟨_,_,rfl,q⟩
def bJ(h:ev P false a (fK fr)=.ok v af)(q:Q (.ret v) af):Wp (ex P w (.ret a) fr) Q:=by rw[S9,h];exact⟨_,_,rfl,q⟩
def aM(h:bB P a fr=.ok b af)(h2:b=true->Wp (exs P w sa af) Q)(I:b=false->Wp (exs P w sb af) Q):Wp (ex P w (.iff a sa sb) fr) Q:=by
 rw[Tc,h,ak];cases b with
 |true=>exact h2 rfl
 |false=>exact I rfl
def aD(q:Q .nx fr):Wp (exs P w .nil fr) Q:=by exact⟨_,_,rfl,q⟩
def nx(P:aJ)(w:Nat)(ss:Ss)(Q:Fl->Fr->Prop):Fl->Fr->Prop
 |.nx,fr=>Wp (exs P w ss fr) Q
 |g,fr=>Q g fr
def ai(q:Wp (ex P w st fr) (nx P w ss Q)):Wp (exs P w (.cons st ss) fr) Q:=by
 rw[JJ,wp_bind];refine q.mono λg af z=>?_;cases g with
 |nx=>exact z
 |bk=>exact⟨_,_,rfl,z⟩
 |ct=>exact⟨_,_,rfl,z⟩
 |ret v=>exact⟨_,_,rfl,z⟩
def je{P:aJ}{w:Nat}{a:Ev.E}{sa ss:Ev.Ss}{fr af:Fr}{Q:Fl->Fr->Prop}(h:bB P a fr=.ok false af)(q:Wp (exs P w ss af) Q):Wp (exs P w (.cons (.iff a sa .nil) ss) fr) Q:=ai (aM h (zS ·) λ_=>aD q)
def kC(h:fc P false it (nZ (itv it) fr)=.ok vs af)(q:Wp (forL (turnF P w t ss) vs af) Q):Wp (ex P w (.for t it ss) fr) Q:=by rw[FJ,h,ak];exact q
def VM(q:Wp (g7 (λao=>bB P a ao) (λao=>exs P w ss ao) w fr) Q):Wp (ex P w (.qG a ss) fr) Q:=by exact q
def di(I:cC t d fr=some af)(q:Wp (exs P w ss af) Q):Wp (turnF P w t ss d fr) Q:=by unfold turnF;rw[I];exact q
def kD(I:cC t d (iZ fr)=some af)(h:ev P false a af=.ok v ao):g9 P a t .no fr d=some (some v):=by
 unfold g9;rw[I];dsimp only;rw[SY];rw[h];rfl
def Oo(I:cC t d (iZ fr)=some af)(h:bB P c af=.ok b ao)(h2:b=true->ev P false a af=.ok v cB):g9 P a t (.yes c) fr d=some (if b then some v else none):=by
 unfold g9;rw[I];dsimp only;rw[N8,h];dsimp only;cases b with
 |true=>rw[h2 rfl];rfl
 |false=>rfl
def iK:cop .eq (.str p) (.str q)=some (decide (p=q)):=CF
def jQ:cop .ne (.str p) (.str q)=some (!decide (p=q)):=by rw[pI,CF];rfl
def jG:cop .eq (.int p) (.int q)=some (decide (p=q)):=NX
def Em:cop .ne (.int p) (.int q)=some (!decide (p=q)):=by rfl
def xN:cop .lt (.int p) (.int q)=some (decide (p<q)):=rfl
def Tj{p q:Int}:cop .le (.int p) (.int q)=some (decide (p<=q)):=rfl
def ql:cop .gt (.int p) (.int q)=some (decide (q<p)):=rfl
def JK{p q:Int}:cop .ge (.int p) (.int q)=some (decide (q<=p)):=rfl
def qm(h:cK p q=true):bO .mul (.int p) (.int q)=some (.int (p*q)):=by rw[AG,OL h]
def tO(h:0<q):bO .mod (.int p) (.int q)=some (.int (p % q)):=by rw[NW,OL h]
def zx(h:0<q)(h2:q<1073741824):bO .fdiv (.int p) (.int q)=some (.int (p / q)):=by rw[JB,OL ⟨h,h2⟩]
end
def bZ(e:fr[i]?=some o)(h:vo o):put fr i s=some (fr.set i (some s)):=by rw[G4,e,Tf h]
def ir(z:fr[i]?=some a)(I:vo a)(Z:(fr.set i (some (.val u)))[j]?=some b)(hb:vo b):cC (.many [i,j]) (.tup [u,v]) fr=some ((fr.set i (some (.val u))).set j (some (.val v))):=by
 simp only[Ej,BA,Ek,bZ z I,Option.bind,bZ Z hb]
def bind1(z:fr[i]?=some a)(I:vo a):cC (.one i) v fr=some (fr.set i (some (.val v))):=bZ z I
section
variable{P:aJ}{w:Nat}{fr af ao:Fr}{k:Bool}{e:E}{es:Es}{v:V}{vs xs xs' l l':T0}{i j n:Nat}{Q:Fl->Fr->Prop}{c:Ev.Cl}{s:Sl}
def L0(h:lN c fr[i]?=some l)(hn:n<c.nv)(z:l[n]?=some v):ev P k (.fld c i n) fr=.ok v fr:=by
 rw[ev,h];simp only;rw[OL hn,z];rfl
def kR{o:Ev.FU}(z:(lN c fr[i]?).isSome=true)(h:bu P true es fr=.ok vs af)(h1:lN c af[i]?=some l)(h2:qM c l n=some xs)(I:rQ o xs vs=some v):ev P k (.fu c o i n es) fr=.ok v af:=by
 rw[ev,OL z,h,ak,h1];simp only;rw[h2];simp only[Option.bind];rw[I];rfl
def ZD{o:Ev.FM}(z:(lN c fr[i]?).isSome=true)(h:bu P false es fr=.ok vs af)(h1:uh c af[i]?=some (s,l))(h2:qM c l n=some xs)(I:GI o xs vs=some (v,xs'))(Z:af.set i (some (s.with (l.set n (.tup xs'))))=ao):ev P k (.fm c o i n es) fr=.ok v ao:=by
 rw[ev,OL z,h,ak,h1];simp only;rw[h2];simp only[Option.bind];rw[I];simp only[bS,ak];rw[Z]
def To(h1:uh c fr[i]?=some (s,l))(h2:Ar c l n j=some l')(z:fr.set i (some (s.with l'))=ao):ev P k (.mv c i n j) fr=.ok .aN ao:=by
 rw[ev,h1];simp only;rw[h2];simp only[bS,ak];rw[z]
def ju{f:Nat}{as:List (Nat ⊕ V)}(z:As c fr es=true)(h:eW P es fr=.ok as af)(h2:cz P f as af=.ok v ao):ev P k (.fq c f es) fr=.ok v ao:=by rw[ev,OL z,h,ak];exact h2
def VN(h1:uh c fr[i]?=some (s,l))(h2:(c.nv<=n/\n<c.nl)/\n<l.length)(z:fr.set i (some (s.with (l.set n (.tup []))))=ao)(q:Q .nx ao):Wp (ex P w (.q9 c i n) fr) Q:=by
 rw[ex,h1];simp only;rw[OL h2,z];exact⟨_,_,rfl,q⟩
def VO{fd:Nat}{tp:List Ev.TP}(h:bu P false es fr=.ok vs af)(hd:P fd []=some (.aN,[]))(h1:Ct vs tp=some l)(h2:l.length=c.nm.length)(z:put af i (.oo c l)=some ao)(q:Q .nx ao):Wp (ex P w (.new c i fd tp es) fr) Q:=by
 rw[ex,h,ak];rw[show cz P fd [] af=.ok .aN af by simp[cz,bC,args,hd,back]];rw[ak,h1,bS,ak,OL h2,z];exact⟨_,_,rfl,q⟩
def Oq{F:List Fn}{fd pC m:Nat}(z:F[pC]?=some ⟨0,0,.nil⟩)(h1:F[fd]?=some ⟨0,0,.cons (.exp (.cl pC .nil)) .nil⟩):run F w (m+2) fd []=some (.aN,[]):=by
 have e:run F w (m+1) pC []=some (.aN,[]):=by simp[gg,z,Oe,cX,outs]
 rw[gg,h1];have:exs (run F w (m+1)) w (.cons (.exp (.cl pC .nil)) .nil) (cX ⟨0,0,.cons (.exp (.cl pC .nil)) .nil⟩ [])=.ok .nx []:=by
  simp[cX,cz,bC,args,e,back]
 simp only[acJ,aa0,this,outs,List.take_nil,acT]
end
section
variable{P:aJ}{X:eE}{w:Nat}(hX:∀f sl c,X f sl=some c->P f sl=none)
include hX
mutual
theorem iA:∀(e:E) {fr:Fr}{c:Nat},xe P X e fr=some c->(∀k,ev P k e fr=.bad)/\bB P e fr=.bad
 |.cl f es,fr,c,z=>by
  simp only[xe]at z;have q:∀k,ev P k (.cl f es) fr=.bad:=λk=>by
   rw[ev];cases y:eW P es fr with
   |ok d g=>
    rw[y]at z;simp only at z;simp only[ak];unfold mD at z;unfold cz;split at z
    case isFalse=>cases z
    rename_i nd;rw[OL nd];rw[aab]at z;obtain⟨sl,a,b⟩:=z;rw[a];simp only;rw[hX _ _ _ b]
   |bad=>rfl
  exact⟨q,by rw[fE rfl,q];rfl⟩
 |.ix _ _,_,_,z=>nomatch z|.me _ _ _,_,_,z=>nomatch z
 |.fq cc f es,fr,c,z=>by
  simp only[xe]at z;split at z
  case isFalse=>cases z
  rename_i h;have q:∀k,ev P k (.fq cc f es) fr=.bad:=λk=>by
   rw[ev,OL h];cases y:eW P es fr with
   |ok d g=>
    rw[y]at z;simp only at z;simp only[ak];unfold mD at z;unfold cz;split at z
    case isFalse=>cases z
    rename_i nd;rw[OL nd];rw[aab]at z;obtain⟨sl,a,b⟩:=z;rw[a];simp only;rw[hX _ _ _ b]
   |bad=>rfl
  exact⟨q,by rw[fE rfl,q];rfl⟩
 |.tup _,_,_,z=>nomatch z|.comp _ _ _ _,_,_,z=>nomatch z|.kh _,_,_,z=>nomatch z
 |.c _,_,_,z=>nomatch z|.v _,_,_,z=>nomatch z|.lst _,_,_,z=>nomatch z
 |.bin _ _ _,_,_,z=>nomatch z|.cmp _ _ _,_,_,z=>nomatch z
 |.ch _ _ _ _ _,_,_,z=>nomatch z
 |.nt _,_,_,z=>nomatch z|.neg _,_,_,z=>nomatch z|.an _ _,_,_,z=>nomatch z|.orr _ _,_,_,z=>nomatch z|.fV _ _ _,_,_,z=>nomatch z
 |.sl _ _ _,_,_,z=>nomatch z
 |.bi _ _,_,_,z=>nomatch z
 |.jx _,_,_,z=>nomatch z
theorem CO:∀(es:Es) {fr:Fr}{c:Nat},yI P X es fr=some c->eW P es fr=.bad
 |.nil,_,_,z=>nomatch z
 |.cons e es,fr,c,z=>by
  simp only[yI]at z;rw[eW];split at z
  .rw[CO es z];rfl
  .split at z
   .rename_i a;rw[a];simp only[ak];rw[CO es z];rfl
   .rw[(iA e z).1];rfl
end
mutual
theorem rA:∀(s:S) {fr:Fr}{c:Nat},xs P X w s fr=some c->ex P w s fr=.bad
 |.fP c,_,_,_=>by rw[ex]
 |.set i e,fr,c,z=>by
  have:pZ e fr=fr:=by cases e<;>first|rfl|cases z
  rw[ex,this,(iA hX e z).1];rfl
 |.exp e,fr,c,z=>by rw[ex,(iA hX e z).1];rfl
 |.ret e,fr,c,z=>by rw[ex,(iA hX e z).1];rfl
 |.fst _ _ _ e,fr,c,z=>by rw[ex,(iA hX e z).1];rfl
 |.iff t a b,fr,c,z=>by
  simp only[xs]at z;rw[ex];cases y:bB P t fr with
  |bad=>rfl
  |ok k d=>
   rw[y]at z;simp only at z;simp only[ak];cases k with
   |true=>exact jm a z
   |false=>exact jm b z
 |.for _ _ _,_,_,z=>nomatch z|.qG _ _,_,_,z=>nomatch z
 |.ki _ _,_,_,z=>nomatch z
 |.cnt,_,_,z=>nomatch z
 |.tr _ _ _,_,_,z=>nomatch z
theorem jm:∀(s:Ss) {fr:Fr}{c:Nat},xss P X w s fr=some c->exs P w s fr=.bad
 |.nil,_,_,z=>nomatch z
 |.cons s ss,fr,c,z=>by
  simp only[xss]at z;rw[exs];split at z
  .rename_i e;rw[e];exact jm ss z
  .cases z
  .rw[rA s z];rfl
end
end
def VP(z:xss P X w fn.body fr=some c):GJ fn ds=none:=by
 unfold GJ;rfl
theorem fj(F:List Fn)(w:Nat):∀(n f:Nat) (sl:List Sl) (c:Nat),dM F w n f sl=some c->run F w n f sl=none
 |0,_,_,_,_=>rfl
 |n+1,f,ds,c,z=>by
  rw[kj]at z;rw[gg];cases y:F[f]? with
  |none=>rw[y]at z;exists z
  |some a=>
   rw[y]at z;simp only at z ⊢;split at z
   .rename_i k;rw[OL k,jm (fj F w n) _ z];exact VP z
   ·exists z
section
variable{F:List Fn}{P:aJ}{X:eE}{w n f c:Nat}{fr af ao:Fr}{s:S}{ss sa sb:Ss}{e t:E}{b:Bool}{es:Es}{v:V}
def kE(z:∀f sl c,X f sl=some c->P f sl=none)(h:xs P X w s fr=some c):xss P X w (.cons s ss) fr=some c:=by
 simp only[xss,rA z s h];exact h
def L1(h:bB P t fr=.ok b af)(h2:(if b then xss P X w sa af else xss P X w sb af)=some c):xs P X w (.iff t sa sb) fr=some c:=by
 simp only[xs,h];exact h2
def zy(h:c<9:=by decide):xs P X w (.fP c) fr=some c:=OL h
def VQ{i:Nat}(h:xe P X e fr=some c):xs P X w (.set i e) fr=some c:=h
def ZE(h:eW P es fr=.ok as af)(h2:mD X f as af=some c):xe P X (.cl f es) fr=some c:=by simp only[xe,h];exact h2
def vY(z:F[f]?=some fn)(I:ds.length=fn.np)(h:xss (run F w n) (dM F w n) w fn.body (cX fn ds)=some c):dM F w (n+1) f ds=some c:=by
 rw[kj,z];simp only;rw[OL I];exact h
theorem xO:∀vs:T0,bC (vs.map .inr)=[]/\args fr (vs.map .inr)=some (vs.map Sl.val)
 |[]=>⟨rfl,rfl⟩
 |v :: vs=>⟨(xO vs).1,by rw[aaD,args,(xO vs).2];rfl⟩
def G6{vs:T0}(h:X f (vs.map .val)=some c):mD X f (vs.map .inr) fr=some c:=by
 have a:=xO (fr:=fr);unfold mD;rw[(a vs).1,(a vs).2];exact h
def Tp(z:F.length<=1000)(h:dM F w n f (ds.map Sl.read)=some c):run F w n (f+1000) ds=some (.int (c:Int),ds.filterMap Sl.out):=by
 cases n with
 |zero=>exists h
 |succ n=>
  rw[gg,aaO (by lia)];simp only[qH];rw[OL (show Ev.xo<=f+1000 from Nat.le_add_left _ _),show f+1000 - Ev.xo=f from acR ..];rw[h];rfl
theorem uN:∀{ds:List Sl},ds.all Sl.jK=true->ds.map Sl.read=ds/\ds.filterMap Sl.out=[]
 |[],_=>⟨rfl,rfl⟩
 |s :: ds,h=>by
  simp only[List.all_cons,Bg]at h;obtain⟨a,d⟩:=uN h.2;cases s with
  |val v=>exact⟨by rw[aaD,a];rfl,by rw[aaS,d];rfl⟩
  |_=>cases h.1
def sd{as:List (Nat ⊕ V)}(h:eW P es fr=.ok as af)(h2:cz P f as af=.ok v ao)(q:Q (.ret v) ao):Wp (ex P w (.tr f kk es) fr) Q:=by
 simp only[ex,h,ak,h2];exact⟨_,_,rfl,q⟩
def Ot{as:List (Nat ⊕ V)}(h:eW P es fr=.ok as af)(h1:cz P f as af=.bad)(h2:cz P (f+1000) as af=.ok (.int (c:Int)) ao)(hc:c<kk)(z:kk≠1001:=by decide)(q:Q (.ret (.tup [.str [114,101,102,117,115,101,100],.int (c:Int)])) ao):Wp (ex P w (.tr f kk es) fr) Q:=by
 have a:Eb kk (.int (c:Int))=some (.tup [.str [114,101,102,117,115,101,100],.int (c:Int)]):=by
  simp only[Eb];rw[OL (by lia)]
 simp only[ex,h,ak,h1];show Wp ((cz P (f+1000) as af).bind _) Q;rw[h2,ak,a];exact⟨_,_,rfl,q⟩
end
end Pv
theorem Pv.zq0{x v}(h:Pv.truthy x=v):Pv.truthy x=v:=h
theorem Pv.zq1{x y v}(h:Pv.fy x y=some v):Pv.fy x y=some v:=h
theorem Pv.zq2{x v}(h:Pv.toT x=some v):Pv.toT x=some v:=h
theorem Pv.zq3{x y v}(h:Pv.pW x y=some v):Pv.pW x y=some v:=h
theorem Pv.zq4{x v}(h:Pv.gZ x=some v):Pv.gZ x=some v:=h
local macro_rules|`(tactic|array_get_dec)=>do
 let n:=Lean.Syntax.node .none
 let a:=Lean.Syntax.atom .none
 let p k:=Lean.Name.mkStr `Lean.Parser.Tactic k
 let u k i:=n (p k) #[a k,i]
 let q l:=n (p "tacticSeq") #[n (p "tacticSeq1Indented") #[n `null l]]
 let t:=("eay eaO evW rau raG aaU abT acF afB acG aoU acR aeF aZC amG azw azv dqj oEl aaq oaR ofF afW aqk oaF eEc eom eeH eEd elz eqf ezq w ecj ejT eiK ejQ ejG eEm exN eTj eql eJK rzq0 rzq1 rzq2 rzq3 rzq4 z".splitOn " ").toArray.map λs=>
  let c:=s.toList.head!
  let i:Lean.Syntax:=Lean.mkIdent (.mkStr `Pv (String.ofList s.toList.tail))
  let r:Lean.Syntax:=Lean.mkIdent `rfl
  let z:=#[n (p "assumption") #[a "assumption"]]
  n `null #[a "|",q (if c='e' then #[u "exact" i] else if c='z' then z else if c='w' then #[n (p "withReducible") #[a "with_reducible",q z]] else if c='a' then #[u "apply" i] else if c='r' then #[u "apply" i,a ";",n (p "tacticRfl") #[a "rfl"]] else #[u "apply" (n `Lean.Parser.Term.app #[i,n `null (if c='o' then #[r] else #[r,r])])])]
 pure (n (p "first") #[a "first",n `null t])
namespace Pv
open Ev (D bN bA TY BI ME T E Es Eo It S Ss Fn big deep b2i rep cK fO bz aY cut dh fz slots)
def Tt(a b:Int):cK (a % 2147483563) b=true:=by simp[cK];lia
def ZF(a b:Int):cK (a % 2147483399) b=true:=by simp[cK];lia
def Tu(h:bz l j=some v):fy (.bY l) (.int j)=some v:=h
def Tv:cop .eq (.bY l) (.lst m)=cY (dQ (18+1)) l m:=rfl
def JL(hc:F[c]?=some tN)(hn:ns.length<=63)(k:Int):run F w (n+1) c [.val (j0 ns),.val (.int k)]=some (.int (zu ns k),[]):=by
 refine bK hc rfl (ai (aM (aF rfl (bT (au rfl) (fB ay lz) (Tv.trans (Om ns))) rfl) (λh=>?_) λh=>aD ?_))
 .have d:=aa7 h;exact ai (bJ (aU (aG rfl) (au rfl) (qm rfl)) ⟨by rw[zu,OL d],rfl⟩)
 .have d:=abA h;have a:=List.length_pos_iff.mpr d;have WL:(0:Int)<(ns.map V.int).length:=by rw[aaP];exact Int.natCast_pos.mpr a
  have e:((ns.map V.int).length:Int)<1073741824:=by rw[aaP];lia
  have f:=Int.emod_nonneg k (b:=(ns.length:Int)) (by lia);have g:(k % ns.length).toNat<ns.length:=by have:=adK k (b:=(ns.length:Int)) (by lia);lia
  have j:bz (ns.map V.int) (k % ((ns.map V.int).length:Int))=some (.int (ns[(k % (ns.length:Int)).toNat]?.getD 0)):=by
   rw[aaP,AM f,aaU,VW g];rfl
  refine ai (bJ (aU (cG (au rfl) (aU (au rfl) (eF (aq (au rfl) ay) CH) (tO WL)) (Tu j)) (aU (aG rfl) (aU (au rfl) (eF (aq (au rfl) ay) CH) (zx WL e)) (qm rfl)) cj) ⟨?_,rfl⟩);rw[zu,aaH d,aaP]
def gX(hc:F[c]?=some tN)(hd:F[dr]?=some (rZ c))(hn:ns.length<=63)(k:Int)(z:0<many):run F w (n+2) dr [.val (j0 ns),.val (.int k),.val (.int many)]=some (.int (dg ns k many),[]):=by
 refine bK hd rfl (ai (aK (aU (aU (aU (aU (cR (aR rfl (au rfl) (aR rfl (au rfl) aO)) (call2 (JL hc hn k))) (aG rfl) (tO (by decide))) (aG rfl) (qm (Tt _ _))) (aU (aG rfl) (aU (au rfl) (aG rfl) cj) (qm rfl)) cj) (aG rfl) (tO (by decide))) rfl rfl ?_));refine ai (aK (aU (aU (aU (au rfl) (au rfl) (qm (Tt _ _))) (aU (au rfl) (aG rfl) (zx (by decide) (by decide))) cj) (aG rfl) (tO (by decide))) rfl rfl ?_);exact ai (bJ (aU (aU (aU (aU (aU (au rfl) (au rfl) (qm (ZF _ _))) (aU (au rfl) (aG rfl) (zx (by decide) (by decide))) cj) (aG rfl) (tO (by decide))) (aG rfl) (zx (by decide) (by decide))) (au rfl) (tO z)) ⟨rfl,rfl⟩)
abbrev fText(z:Nat):Fn:=⟨3,4,(.cons (.ret (.me .join (.c (.str [])) (.cons (.comp (.ix (.c (.str [97,98,99,32])) (.cl z (.cons (.v 0) (.cons (.bin .add (.bin .add (.v 1) (.c (.int 1))) (.v 3)) (.cons (.c (.int 4)) .nil))))) (.one 3) (.kI (.cons (.cl z (.cons (.v 0) (.cons (.v 1) (.cons (.bin .add (.v 2) (.c (.int 1))) .nil)))) .nil)) .no) .nil))) .nil)⟩
abbrev L3(z:Nat):S:=.iff (.cmp .eq (.cl z (.cons (.v 0) (.cons (.bin .add (.v 1) (.bin .mul (.c (.int 4)) (.v 4))) (.cons (.c (.int 4)) .nil)))) (.c (.int 0))) (.cons (.set 5 (.bin .mul (.ix (.c (.str [97,98,122])) (.cl z (.cons (.v 0) (.cons (.bin .add (.bin .add (.v 1) (.bin .mul (.c (.int 4)) (.v 4))) (.c (.int 1))) (.cons (.c (.int 3)) .nil))))) (.bin .add (.c (.int 1)) (.cl z (.cons (.v 0) (.cons (.bin .add (.bin .add (.v 1) (.bin .mul (.c (.int 4)) (.v 4))) (.c (.int 2))) (.cons (.c (.int 2)) .nil))))))) (.cons (.set 3 (.bin .add (.v 3) (.tup (.cons (.tup (.cons (.c (.str [112,117,116])) (.cons (.v 5) .nil))) .nil)))) .nil)) .nil
abbrev L4(z:Nat):S:=.iff (.cmp .lt (.v 4) (.bi .len (.cons (.v 2) .nil))) (.cons (.set 6 (.cmp .gt (.cl z (.cons (.v 0) (.cons (.bin .add (.bin .add (.v 1) (.bin .mul (.c (.int 4)) (.v 4))) (.c (.int 3))) (.cons (.c (.int 3)) .nil)))) (.c (.int 0)))) (.cons (.set 3 (.bin .add (.v 3) (.tup (.cons (.fV (.v 6) (.tup (.cons (.c (.str [107,101,101,112])) (.cons (.c (.int 1)) .nil))) (.tup (.cons (.c (.str [100,114,111,112])) (.cons (.ix (.v 2) (.v 4)) .nil)))) .nil)))) .nil)) .nil
abbrev xP(z:Nat):Fn:=⟨3,7,(.cons (.set 3 (.tup .nil)) (.cons (.for (.one 4) (.kI (.cons (.bin .add (.bi .len (.cons (.v 2) .nil)) (.c (.int 1))) .nil)) (.cons (L3 z) (.cons (L4 z) .nil))) (.cons (.ret (.v 3)) .nil)))⟩
inductive Pt where
 |keep (n:Nat)|put (s:Θ)|drop (s:Θ)
deriving DecidableEq
def fM:Θ:=[107,101,101,112]
def qo:Θ:=[112,117,116]
def mH:Θ:=[100,114,111,112]
def Pt.v:Pt->V
 |.keep n=>.tup [.str fM,.int n]
 |.put s=>.tup [.str qo,.str s]
 |.drop s=>.tup [.str mH,.str s]
abbrev Kk:=List Pt
def aT(c:Kk):V:=.tup (c.map Pt.v)
def G7(n:Nat)(a b:Pt):dQ (n+2) a.v b.v=some (decide (a=b)):=by
 cases a<;>cases b<;>simp[Pt.v,fM,qo,mH]
 all_goals lia
def txt(ns:Q1)(at_ z:Int):Θ:=(List.range (dg ns at_ (z+1)).toNat).map λ(k:Nat)=>[97,98,99,32].getD (dg ns (at_+1+k) 4).toNat 0
def Ou(ns:Q1)(at_:Int)(h:0<=most):(txt ns at_ most).length<=most.toNat:=by
 unfold txt;have a:=lR ns at_ (many:=most+1) (by lia);simp;lia
def getD_at{α:Type}{l:List α}{i:Int}(z:0<=i)(h1:i<l.length)(d:α):bz l i=some (l.getD i.toNat d):=by
 have:i.toNat<l.length:=by lia
 rw[AM z];simp[List.getD,VW this]
def oV{α β:Type}(l:List α)(f:α->β):(l.map λx=>[f x]).flatten=l.map f:=by induction l<;>simp[*]
def G8(lo:Int)(n:Nat):range lo n=(List.range n).map λ(i:Nat)=>V.int (lo+i):=rfl
section
variable{F:List Fn}{w n c dr t:Nat}(hc:F[c]?=some tN)(hd:F[dr]?=some (rZ c)){ns:Q1}(hn:ns.length<=63)
include hc hd hn
theorem JM(I:F[t]?=some (fText dr))(k z:Int)(hm:0<=z)(Z:z<=1000):run F w (n+3) t [.val (j0 ns),.val (.int k),.val (.int z)]=some (.str (txt ns k z),[]):=by
 have d:=pL ns k (many:=z+1) (by lia);have h:=lR ns k (many:=z+1) (by lia);have e:=λfr=>iR (fr:=fr) (gX (w:=w) (n:=n) hc hd hn k (many:=z+1) (by lia));have VR:cL (g9 (run F w (n+2)) (.ix (.c (.str [97,98,99,32])) (.cl dr (.cons (.v 0) (.cons (.bin .add (.bin .add (.v 1) (.c (.int 1))) (.v 3)) (.cons (.c (.int 4)) .nil))))) (.one 3) .no [some (.val (j0 ns)),some (.val (.int k)),some (.val (.int z)),none]) (range 0 (dg ns k (z+1)).toNat)=some (((List.range (dg ns k (z+1)).toNat).map λ(j:Nat)=>[[97,98,99,32].getD (dg ns (k+1+j) 4).toNat 0]).map V.str):=by
  rw[G8,acG];refine gr _ _ _ λj _=>?_;have f:=λfr=>iR (fr:=fr) (gX (w:=w) (n:=n) hc hd hn (k+1+j) (many:=4) (by decide));have p:fy (.str [97,98,99,32]) (.int (dg ns (k+1+j) 4))=some (.str [[97,98,99,32].getD (dg ns (k+1+j) 4).toNat 0]):=by
   rw[xH,getD_at (l:=[97,98,99,32]) (pL ns (k+1+j) (many:=4) (by decide)) (lR ns (k+1+j) (many:=4) (by decide)) 0];rfl
  rw[show(0:Int)+(j:Int)=j from ac6 _];exact kD rfl (by (repeat (first|array_get_dec|exact f _)))
 have b:=LY (l:=(List.range (dg ns k (z+1)).toNat).map λ(j:Nat)=>[[97,98,99,32].getD (dg ns (k+1+j) 4).toNat 0]) (by rw[oV];simp;lia);rw[oV]at b;have a:eV (((List.range (dg ns k (z+1)).toNat).map λ(j:Nat)=>[[97,98,99,32].getD (dg ns (k+1+j) 4).toNat 0]).map V.str)=some (.lst _):=cW (bE (by simp;lia));have g:=SG d (show dg ns k (z+1)<=100000 by lia);refine bK I rfl (ai (bJ (El rfl (aG rfl) (aq (jc (vX (by (repeat (first|array_get_dec|exact e _))) g) rfl VR a) ay) b) ⟨rfl,rfl⟩))
end
def lD(ns:Q1)(at_:Int)(s:Θ)(k:Nat):Kk:=
 (if dg ns (at_+4*k) 4=0 then [.put (rep (1+dg ns (at_+4*k+2) 2).toNat [[97,98,122].getD (dg ns (at_+4*k+1) 3).toNat 0])]else [])++
 (match s[k]? with
 |some c=>[if 0<dg ns (at_+4*k+3) 3 then .keep 1 else .drop [c]]
 |none=>[])
def gI(ns:Q1)(at_:Int)(s:Θ)(k:Nat):Kk:=(List.range k).flatMap (lD ns at_ s)
def chg(ns:Q1)(at_:Int)(s:Θ):Kk:=gI ns at_ s (s.length+1)
def G9(ns:Q1)(at_:Int)(s:Θ)(k:Nat):(lD ns at_ s k).length<=2:=by
 unfold lD;split<;>split<;>simp
def mJ(ns:Q1)(at_:Int)(s:Θ)(k:Nat):gI ns at_ s (k+1)=gI ns at_ s k++lD ns at_ s k:=by simp[gI,ab9]
theorem sj(ns:Q1)(at_:Int)(s:Θ):∀k,(gI ns at_ s k).length<=2*k
 |0=>by simp[gI]
 |k+1=>by
  have a:=G9 ns at_ s k;have b:=sj ns at_ s k;rw[mJ,aaE];lia
def ZG(i:Int):cK 4 i=true:=by simp[cK]
def En(h:a.length+b.length<=100000):bO .add (aT a) (aT b)=some (aT (a++b)):=by
 simp only[aT];rw[qh (by simpa using h)];simp
def JN{j:Int}{n:Nat}(h:n<=100000)(e:j=n):gH [.int j]=some (range 0 n):=by
 subst e;rw[SG (by lia) (by lia)];rfl
def Ov(h:a.length<100000):bO .add (aT a) (.tup [.tup [.str [112,117,116],.str s]])=some (aT (a++[.put s])):=En (b:=[.put s]) (by simp;lia)
def JP(h:a.length<100000):bO .add (aT a) (.tup [.tup [.str [100,114,111,112],.str s]])=some (aT (a++[.drop s])):=En (b:=[.drop s]) (by simp;lia)
def JQ(h:a.length<100000):bO .add (aT a) (.tup [.tup [.str [107,101,101,112],.int 1]])=some (aT (a++[.keep 1])):=En (b:=[.keep 1]) (by simp;lia)
section
variable{F:List Fn}{w n c dr t:Nat}(hc:F[c]?=some tN)(hd:F[dr]?=some (rZ c)){ns:Q1}(hn:ns.length<=63)
include hc hd hn
theorem JR(k:Int)(x:V)(fd:Kk)(j:Nat)(u v:T2)(I:vo u)(Z:fd.length<=10000):
  Wp (ex (run F w (n+2)) w (L3 dr) [some (.val (j0 ns)),some (.val (.int k)),some (.val x),some (.val (aT fd)),some (.val (.int j)),u,v]) λg fr=>g=.nx/\∃b,vo b/\fr=[some (.val (j0 ns)),some (.val (.int k)),some (.val x),some (.val (aT (fd++if dg ns (k+4*j) 4=0 then [.put (rep (1+dg ns (k+4*j+2) 2).toNat [[97,98,122].getD (dg ns (k+4*j+1) 3).toNat 0])]else []))),some (.val (.int j)),b,v]:=by
 have e:=λfr=>iR (fr:=fr) (gX (w:=w) (n:=n) hc hd hn (k+4*j) (many:=4) (by decide));have q:bO .mul (.int 4) (.int j)=some (.int (4*j)):=by rfl
 refine aM (by (repeat (first|array_get_dec|exact e _))) (λh=>?_) λh=>?_
 .have d:=aa7 h;have f:=λfr=>iR (fr:=fr) (gX (w:=w) (n:=n) hc hd hn (k+4*j+1) (many:=3) (by decide));have p:=λfr=>iR (fr:=fr) (gX (w:=w) (n:=n) hc hd hn (k+4*j+2) (many:=2) (by decide));have r:=pL ns (k+4*j+2) (many:=2) (by decide);have y:=lR ns (k+4*j+2) (many:=2) (by decide);have z:fy (.str [97,98,122]) (.int (dg ns (k+4*j+1) 3))=some (.str [[97,98,122].getD (dg ns (k+4*j+1) 3).toNat 0]):=by
   rw[xH,getD_at (l:=[97,98,122]) (pL ns (k+4*j+1) (many:=3) (by decide)) (lR ns (k+4*j+1) (many:=3) (by decide)) 0];rfl
  have A:=Jy (j:=1+dg ns (k+4*j+2) 2) (a:=[[97,98,122].getD (dg ns (k+4*j+1) 3).toNat 0]) (by lia) (by lia) (by simp);have B:=Ov (a:=fd) (s:=rep (1+dg ns (k+4*j+2) 2).toNat [[97,98,122].getD (dg ns (k+4*j+1) 3).toNat 0]) (by lia);refine ai (aK (by (repeat (first|array_get_dec|exact f _|exact p _))) rfl (bZ rfl I) ?_);refine ai (aK (by repeat array_get_dec) rfl rfl (aD ?_));rw[OL d];exact⟨rfl,_,.val,rfl⟩
 .have d:=abA h;rw[aaH d,aaJ];exact aD ⟨rfl,u,I,rfl⟩
theorem JU(k:Int)(x:Θ)(hx:x.length<=1000)(fd:Kk)(j:Nat)(u v:T2)(I:vo v)(Z:fd.length<=10000):
  Wp (ex (run F w (n+2)) w (L4 dr) [some (.val (j0 ns)),some (.val (.int k)),some (.val (.str x)),some (.val (aT fd)),some (.val (.int j)),u,v]) λg fr=>g=.nx/\∃b,vo b/\fr=[some (.val (j0 ns)),some (.val (.int k)),some (.val (.str x)),some (.val (aT (fd++match x[j]? with
     |some c=>[if 0<dg ns (k+4*j+3) 3 then .keep 1 else .drop [c]]
     |none=>[]))),some (.val (.int j)),u,b]:=by
 have y:cZ .len [.str x]=some (.int (x.length:Nat)):=abI (by lia);refine aM (by repeat array_get_dec) (λh=>?_) λh=>?_
 .have d:j<x.length:=by have:=aa7 h;lia
  have r:=λfr=>iR (fr:=fr) (gX (w:=w) (n:=n) hc hd hn (k+4*j+3) (many:=3) (by decide));have z:bO .mul (.int 4) (.int j)=some (.int (4*j)):=by rw[AG,ZG];rfl
  have q:x[j]?=some x[j]:=VW d;have A:fy (.str x) (.int j)=some (.str [x[j]]):=by rw[xH,mP,q];rfl
  rw[q];refine ai (aK (by (repeat (first|array_get_dec|exact r _))) rfl (bZ rfl I) ?_);by_cases e:0<dg ns (k+4*j+3) 3
  .have f:=JQ (a:=fd) (by lia);have p:truthy (.bl (decide (0<dg ns (k+4*j+3) 3)))=true:=abn e;refine ai (aK (aU (au rfl) (cF (aq (fC (b:=true) (aF rfl (au rfl) p) (λ_=>by repeat array_get_dec) λh=>absurd h (by decide)) ay) om) f) rfl rfl (aD ?_));refine⟨rfl,some (.val (.bl (decide (0<dg ns (k+4*j+3) 3)))),.val,?_⟩;simp only[OL e];rfl
  .have f:=JP (a:=fd) (s:=[x[j]]) (by lia);have p:truthy (.bl (decide (0<dg ns (k+4*j+3) 3)))=false:=aaR e;refine ai (aK (aU (au rfl) (cF (aq (fC (b:=false) (aF rfl (au rfl) p) (zS ·) λ_=>by repeat array_get_dec) ay) om) f) rfl rfl (aD ?_));refine⟨rfl,some (.val (.bl (decide (0<dg ns (k+4*j+3) 3)))),.val,?_⟩;simp only[aaH e];rfl
 .have d:¬ j<x.length:=by have:=abA h;lia
  rw[aaO (by lia),aaJ];exact aD ⟨rfl,v,I,rfl⟩
theorem Ep(Z:F[t]?=some (xP dr))(k:Int)(x:Θ)(hx:x.length<=1000):run F w (n+3) t [.val (j0 ns),.val (.int k),.val (.str x)]=some (aT (chg ns k x),[]):=by
 refine bK Z rfl ?_;have C:cZ .len [.str x]=some (.int x.length):=abI (by lia);have G:gH [.int (x.length+1)]=some (range 0 (x.length+1)):=JN (by lia) (by lia);refine ai (aK (by repeat array_get_dec) rfl rfl ?_);refine ai (kC (vX (aq (aU (eF (aq (au rfl) ay) C) (aG rfl) cj) ay) G) ?_);refine CK (λj h=>∃a b c,vo a/\vo b/\vo c/\h=[some (.val (j0 ns)),some (.val (.int k)),some (.val (.str x)),some (.val (aT (gI ns k x j))),a,b,c]) (λj h I ⟨a,b,d,p,q,e,f⟩=>?_) (λh ⟨a,b,d,p,q,e,f⟩=>?_) ⟨none,none,none,.none,.none,.none,rfl⟩
 .subst f;have hz:=sj ns k x j;rw[show 0+(j:Int)=j from ac6 _];refine di (bind1 rfl p) (ai ?_);refine(JR hc hd hn k (.str x) (gI ns k x j) j b d q (by lia)).mono λg h ⟨r,B,y,z⟩=>?_;subst r z;refine ai ?_;refine(JU hc hd hn k x hx _ j B d e (by split<;>simp<;>lia)).mono λg h ⟨r,H,A,z⟩=>?_;subst r z;refine aD ?_;refine⟨some (.val (.int j)),B,H,.val,y,A,?_⟩;rw[mJ,lD,aaX]
 .subst f;refine ai (bJ (af:=[some (.val (j0 ns)),some (.val (.int k)),some (.val (.str x)),some (.val (aT (gI ns k x (x.length+1)))),a,b,d]) ?_ ⟨rfl,rfl⟩);have sh:fK [some (.val (j0 ns)),some (.val (.int k)),some (.val (.str x)),some (.val (aT (gI ns k x (x.length+1)))),a,b,d]=[some (.val (j0 ns)),some (.val (.int k)),some (.val (.str x)),some (.val (aT (gI ns k x (x.length+1)))),a,b,d]:=by
   show _ :: _ :: _ :: _ :: a.map Sl.dz :: b.map Sl.dz :: [d.map Sl.dz]=_;rw[dF p,dF q,dF e];rfl
  rw[sh];exact au rfl
end
abbrev dj:Fn:=⟨1,1,(.cons (.iff (.cmp .eq (.ix (.v 0) (.c (.int 0))) (.c (.str [107,101,101,112]))) (.cons (.ret (.ix (.v 0) (.c (.int 1)))) .nil) .nil) (.cons (.ret (.bi .len (.cons (.ix (.v 0) (.c (.int 1))) .nil))) .nil))⟩
abbrev kT(z:Nat):Fn:=⟨1,2,(.cons (.ret (.bi .sum (.cons (.comp (.cl z (.cons (.v 1) .nil)) (.one 1) (.seq (.v 0)) (.yes (.cmp .ne (.ix (.v 1) (.c (.int 0))) (.c (.str [112,117,116]))))) .nil))) .nil)⟩
abbrev mT(z:Nat):Fn:=⟨1,2,(.cons (.ret (.bi .sum (.cons (.comp (.cl z (.cons (.v 1) .nil)) (.one 1) (.seq (.v 0)) (.yes (.cmp .ne (.ix (.v 1) (.c (.int 0))) (.c (.str [100,114,111,112]))))) .nil))) .nil)⟩
abbrev AQ(z:Nat):Fn:=⟨1,2,(.cons (.ret (.bi .sum (.cons (.comp (.cl z (.cons (.v 1) .nil)) (.one 1) (.seq (.v 0)) (.yes (.cmp .ne (.ix (.v 1) (.c (.int 0))) (.c (.str [107,101,101,112]))))) .nil))) .nil)⟩
abbrev nL(z:Nat):Fn:=⟨1,7,(.cons (.set 1 (.lst .nil)) (.cons (.set 2 (.c (.int 0))) (.cons (.set 3 (.c (.str []))) (.cons (.set 4 (.c (.str []))) (.cons (.for (.many [5,6]) (.seq (.v 0)) (.cons (.iff (.cmp .eq (.v 5) (.c (.str [100,114,111,112]))) (.cons (.set 3 (.bin .add (.v 3) (.v 6))) .nil) (.cons (.iff (.cmp .eq (.v 5) (.c (.str [112,117,116]))) (.cons (.set 4 (.bin .add (.v 4) (.v 6))) .nil) (.cons (.iff (.cmp .gt (.v 6) (.c (.int 0))) (.cons (.iff (.orr (.cmp .ne (.v 3) (.c (.str []))) (.cmp .ne (.v 4) (.c (.str [])))) (.cons (.exp (.me .extend (.v 1) (.cons (.cl z (.cons (.v 2) (.cons (.v 3) (.cons (.v 4) .nil)))) .nil))) (.cons (.set 2 (.c (.int 0))) (.cons (.set 3 (.c (.str []))) (.cons (.set 4 (.c (.str []))) .nil)))) .nil) (.cons (.set 2 (.bin .add (.v 2) (.v 6))) .nil)) .nil) .nil)) .nil)) .nil)) (.cons (.exp (.me .extend (.v 1) (.cons (.cl z (.cons (.v 2) (.cons (.v 3) (.cons (.v 4) .nil)))) .nil))) (.cons (.ret (.kh (.v 1))) .nil)))))))⟩
abbrev um:S:=.iff (.cmp .ne (.v 1) (.c (.str []))) (.cons (.exp (.me .append (.v 3) (.cons (.tup (.cons (.c (.str [100,114,111,112])) (.cons (.v 1) .nil))) .nil))) .nil) .nil
abbrev oW:S:=.iff (.cmp .ne (.v 2) (.c (.str []))) (.cons (.exp (.me .append (.v 3) (.cons (.tup (.cons (.c (.str [112,117,116])) (.cons (.v 2) .nil))) .nil))) .nil) .nil
abbrev lE:S:=.ret (.v 3)
abbrev gY:Fn:=⟨3,4,(.cons (.set 3 (.lst .nil)) (.cons (.iff (.cmp .gt (.v 0) (.c (.int 0))) (.cons (.exp (.me .append (.v 3) (.cons (.tup (.cons (.c (.str [107,101,101,112])) (.cons (.v 0) .nil))) .nil))) .nil) .nil) (.cons um (.cons oW (.cons lE .nil)))))⟩
def Pt.n:Pt->Nat
 |.keep n=>n
 |.put s=>s.length
 |.drop s=>s.length
def tot(c:Kk):Nat:=(c.map Pt.n).sum
def eU(a b:Kk):tot (a++b)=tot a+tot b:=by simp[tot]
def bL(p:Pt)(c:Kk):tot (p :: c)=p.n+tot c:=by simp[tot]
def gu:Pt->Bool
 |.put _=>true
 |_=>false
def fY:Pt->Bool
 |.drop _=>true
 |_=>false
def gR:Pt->Bool
 |.keep _=>true
 |_=>false
def aE(c:Kk):Nat:=tot (c.filter λp=>!gu p)
def jB(c:Kk):Nat:=tot (c.filter λp=>!fY p)
def cst(c:Kk):Nat:=tot (c.filter λp=>!gR p)
section
variable{F:List Fn}{w n aC i:Nat}
def kU(z:F[i]?=some dj)(p:Pt)(I:p.n<=100000):run F w (n+1) i [.val p.v]=some (.int p.n,[]):=by
 cases p with
 |keep k=>exact bK z rfl (ai (aM (aF rfl (bT (cG (au rfl) (aG rfl) rfl) (aG rfl) iK) rfl) (λ_=>ai (bJ (cG (au rfl) (aG rfl) rfl) ⟨rfl,rfl⟩)) nofun))
 |put s=>exact bK z rfl (ai (aM (aF rfl (bT (cG (au rfl) (aG rfl) rfl) (aG rfl) iK) rfl) nofun (λ_=>aD (ai (bJ (eF (aq (cG (au rfl) (aG rfl) rfl) ay) (abI I)) ⟨rfl,rfl⟩)))))
 |drop s=>exact bK z rfl (ai (aM (aF rfl (bT (cG (au rfl) (aG rfl) rfl) (aG rfl) iK) rfl) nofun (λ_=>aD (ai (bJ (eF (aq (cG (au rfl) (aG rfl) rfl) ay) (abI I)) ⟨rfl,rfl⟩)))))
def ZH(h:p∈c):p.n<=tot c:=by
 induction c with
 |nil=>simp at h
 |cons q c a=>
  rw[bL];rcases qE h with rfl|h
  .lia
  .lia
def VS(c:Kk):(c.map λp=>(p.n:Int)).sum=(tot c:Int):=by
 induction c with
 |nil=>rfl
 |cons p c a=>simp only[aaD,List.sum_cons,a,bL];lia
def xQ(z:F[aC]?=some dj)(I:F[i]?=some ⟨1,2,.cons (.ret (.bi .sum (.cons (.comp (.cl aC (.cons (.v 1) .nil)) (.one 1) (.seq (.v 0)) (.yes (.cmp .ne (.ix (.v 1) (.c (.int 0))) (.c (.str word))))) .nil))) .nil⟩)(Z:∀p:Pt,∃x u,p.v=.tup [.str x,u]/\(!decide (x=word))=pr p)(c:Kk)(h1:c.length<=10000)(h2:tot c<=100000):run F w (n+2) i [.val (aT c)]=some (.int (tot (c.filter pr)),[]):=by
 refine bK I rfl (ai (bJ (eF (aq (jc (ef (er rfl) rfl) rfl (AI (e:=Pt.v) (p:=pr) (g:=λp=>.int p.n) c λp f=>?_) (cW (bE ?_))) ay) ?_) ⟨rfl,rfl⟩))
 .obtain⟨x,u,d,b⟩:=Z p;have a:=λfr=>ig (fr:=fr) (kU (w:=w) (n:=n) z p (aaN (ZH f) h2));rw[d]at a;rw[d,<-b];exact Oo rfl (aF rfl (bT (cG (au rfl) (aG rfl) rfl) (aG rfl) jQ) rfl) λ_=>cR (aR rfl (au rfl) aO) (a _)
 .rw[aaP];exact aaN (List.length_filter_le _ _) (aaN h1 (by decide))
 .rw[N1,Ef (λp:Pt=>p.n)];show some (V.int _)=_;rw[VS]
def Er(z:F[aC]?=some dj)(I:F[i]?=some (kT aC))(c:Kk)(h1:c.length<=10000)(h2:tot c<=100000):run F w (n+2) i [.val (aT c)]=some (.int (aE c),[]):=
 xQ z I (λp=>by cases p<;>exact⟨_,_,rfl,rfl⟩) c h1 h2
def Hf(z:F[aC]?=some dj)(I:F[i]?=some (mT aC))(c:Kk)(h1:c.length<=10000)(h2:tot c<=100000):run F w (n+2) i [.val (aT c)]=some (.int (jB c),[]):=
 xQ z I (λp=>by cases p<;>exact⟨_,_,rfl,rfl⟩) c h1 h2
def JV(z:F[aC]?=some dj)(I:F[i]?=some (AQ aC))(c:Kk)(h1:c.length<=10000)(h2:tot c<=100000):run F w (n+2) i [.val (aT c)]=some (.int (cst c),[]):=
 xQ (pr:=λp=>!gR p) z I (λp=>by cases p<;>exact⟨_,_,rfl,rfl⟩) c h1 h2
end
def cH(k:Nat)(g w:Θ):Kk:=(if 0<k then [.keep k]else [])++(if g=[]then []else [.drop g])++(if w=[]then []else [.put w])
def oX(k:Nat)(g w:Θ):(cH k g w).length<=3:=by unfold cH;split<;>split<;>split<;>simp
def uo(z:F[i]?=some gY)(k:Nat)(g x:Θ):run F w (n+1) i [.val (.int k),.val (.str g),.val (.str x)]=some (.lst ((cH k g x).map Pt.v),[]):=by
 refine bK z rfl ?_;refine ai (gQ (by repeat array_get_dec) rfl rfl ?_);have c:∀(l:T0) (d:V) (a:Fr) (i:Nat),l.length<=3->a[i]?=some (some (.own l))->jL .append i [d] a a[i]?=.ok .aN (a.set i (some (.own (l++[d])))):=λl d a i h e=>by rw[e];exact tM (by lia)
 have fin:∀l:T0,Wp (exs (run F w n) w (.cons lE .nil) [some (.val (.int k)),some (.val (.str g)),some (.val (.str x)),some (.own l)]) λg a=>g=.ret (.lst l)/\outs 3 a=[]:=λl=>ai (bJ (by repeat array_get_dec) ⟨rfl,rfl⟩);have s3:∀l:T0,l.length<=2->Wp (exs (run F w n) w (.cons oW (.cons lE .nil)) [some (.val (.int k)),some (.val (.str g)),some (.val (.str x)),some (.own l)]) λg a=>g=.ret (.lst (l++(if x=[]then []else [Pt.put x]).map Pt.v))/\outs 3 a=[]:=λl f=>by
  refine ai (aM (by repeat array_get_dec) (λh=>?_) λh=>?_)
  .have b:x≠[]:=by simpa using h
   refine ai (eK (by (repeat array_get_dec);exact c _ _ _ _ (by lia) rfl) (aD ?_));rw[aaH b];exact fin _
  .have b:x=[]:=by simpa using h
   refine aD ?_;rw[OL b,ac5,aaJ];exact fin _
 have s2:∀l:T0,l.length<=1->Wp (exs (run F w n) w (.cons um (.cons oW (.cons lE .nil))) [some (.val (.int k)),some (.val (.str g)),some (.val (.str x)),some (.own l)]) λy a=>y=.ret (.lst (l++((if g=[]then []else [Pt.drop g])++(if x=[]then []else [Pt.put x])).map Pt.v))/\outs 3 a=[]:=λl f=>by
  refine ai (aM (by repeat array_get_dec) (λh=>?_) λh=>?_)
  .have b:g≠[]:=by simpa using h
   refine ai (eK (by (repeat array_get_dec);exact c _ _ _ _ (by lia) rfl) (aD ?_));rw[aaH b,aaG,<-aaX];exact s3 _ (by simp;lia)
  .have b:g=[]:=by simpa using h
   refine aD ?_;rw[OL b,List.nil_append];exact s3 _ (by lia)
 refine ai (aM (by repeat array_get_dec) (λh=>?_) λh=>?_)
 .have b:0<k:=by have:=aa7 h;lia
  refine ai (eK (by (repeat array_get_dec);exact c _ _ _ _ (by decide) rfl) (aD ?_));unfold cH;rw[OL b,aaX];exact s2 _ (aaB 1)
 .have b:¬ 0<k:=by have:=abA h;lia
  refine aD ?_;unfold cH;rw[aaH b];exact s2 _ (by decide)
abbrev FS:=Kk×Nat×Θ×Θ
def bR(st:FS):Pt->FS
 |.drop s=>(st.1,st.2.1,st.2.2.1++s,st.2.2.2)
 |.put s=>(st.1,st.2.1,st.2.2.1,st.2.2.2++s)
 |.keep k=>if 0<k then (if st.2.2.1=[]/\st.2.2.2=[]then (st.1,st.2.1+k,[],[])else (st.1++cH st.2.1 st.2.2.1 st.2.2.2,k,[],[]))else st
def gS:FS:=([],0,[],[])
def eg(st:FS):Kk:=st.1++cH st.2.1 st.2.2.1 st.2.2.2
def bf(c:Kk):Kk:=eg (c.foldl bR gS)
def Ox(p:Kk)(a:Pt):(p++[a]).foldl bR gS=bR (p.foldl bR gS) a:=by simp
def AR(c:Kk):∀st:FS,(c.foldl bR st).1.length<=st.1.length+3*c.length/\(c.foldl bR st).2.2.1.length<=st.2.2.1.length+tot c/\(c.foldl bR st).2.2.2.length<=st.2.2.2.length+tot c:=by
 induction c with
 |nil=>intro st;simp[tot]
 |cons p c a=>
  intro st;have h:=a (bR st p);have b:(bR st p).1.length<=st.1.length+3/\(bR st p).2.2.1.length<=st.2.2.1.length+p.n/\(bR st p).2.2.2.length<=st.2.2.2.length+p.n:=by
   have:=oX st.2.1 st.2.2.1 st.2.2.2;cases p with
   |drop s=>simp[bR,Pt.n]
   |put s=>simp[bR,Pt.n]
   |keep k=>
    simp only[bR];split
    .split
     .simp
     .simp;lia
    .simp
  simp only[aba,aaI,bL];lia
def qp(Z:F[bQ]?=some gY)(hf:F[i]?=some (nL bQ))(c:Kk)(h1:c.length<=10000)(h2:tot c<=10000):run F w (n+2) i [.val (aT c)]=some (aT (bf c),[]):=by
 refine bK hf rfl ?_;refine ai (gQ (by repeat array_get_dec) rfl rfl ?_);refine ai (aK (by repeat array_get_dec) rfl rfl ?_);refine ai (aK (by repeat array_get_dec) rfl rfl ?_);refine ai (aK (by repeat array_get_dec) rfl rfl ?_);refine ai (kC (ef (er rfl) rfl) ?_);have ext:∀(d:FS) (fr:Fr),d.1.length<=30010->jL .extend 1 [.lst ((cH d.2.1 d.2.2.1 d.2.2.2).map Pt.v)] fr (some (some (.own (d.1.map Pt.v))))=.ok .aN (fr.set 1 (some (.own ((eg d).map Pt.v)))):=λd fr h=>by
  have:=oX d.2.1 d.2.2.1 d.2.2.2;unfold eg;rw[aaG];exact mS (by simp;lia)
 refine gn (λp l fr=>p++l=c/\∃a b,vo a/\vo b/\fr=[some (.val (aT c)),some (.own ((p.foldl bR gS).1.map Pt.v)),some (.val (.int (p.foldl bR gS).2.1)),some (.val (.str (p.foldl bR gS).2.2.1)),some (.val (.str (p.foldl bR gS).2.2.2)),a,b]) (λp x l fr ⟨f,a,b,r,y,g⟩=>?_) (λp fr ⟨f,a,b,r,y,g⟩=>?_) c [] _ ⟨rfl,none,none,.none,.none,rfl⟩
 .subst g;obtain⟨B,C,G⟩:=AR p gS;have J:p.length+l.length+1=c.length:=by rw[<-f];simp;lia
  have AS:tot p+x.n+tot l=tot c:=by rw[<-f,eU,bL];lia
  rw[Ox];have q:(p++[x])++l=c:=by simpa using f
  generalize p.foldl bR gS=d at *
  simp[gS]at B C G;have H:=λfr=>iR (fr:=fr) (uo (w:=w) (n:=n) Z d.2.1 d.2.2.1 d.2.2.2);have ex:=λfr=>ext d fr (by lia);cases x with
  |drop s=>
   have Z:s.length<=tot c:=by simp only[Pt.n]at AS;lia
   have K:=qg (a:=d.2.2.1) (b:=s) (by lia);refine di (ir rfl r rfl y) (ai (aM (by repeat array_get_dec) (λ_=>?_) λh=>absurd h (by decide)));refine ai (aK (by repeat array_get_dec) rfl rfl (aD (aD ?_)));rw[dZ];exact⟨q,_,_,.val,.val,rfl⟩
  |put s=>
   have Z:s.length<=tot c:=by simp only[Pt.n]at AS;lia
   have K:=qg (a:=d.2.2.2) (b:=s) (by lia);refine di (ir rfl r rfl y) (ai (aM (by repeat array_get_dec) (zS ·) λ_=>?_));refine ai (aM (by repeat array_get_dec) (λ_=>?_) λh=>absurd h (by decide));refine ai (aK (by repeat array_get_dec) rfl rfl (aD (aD (aD ?_))));rw[dZ];exact⟨q,_,_,.val,.val,rfl⟩
  |keep k=>
   refine di (ir rfl r rfl y) (ai (aM (by repeat array_get_dec) (zS ·) λ_=>?_));refine ai (aM (by repeat array_get_dec) (zS ·) λ_=>?_);refine ai (aM (by repeat array_get_dec) (λh=>?_) λh=>?_)
   .have A:0<k:=by have:=aa7 h;lia
    by_cases j:d.2.2.1=[]/\d.2.2.2=[]
    .have n1:cop .ne (.str d.2.2.1) (.str [])=some false:=by rw[jQ,j.1];rfl
     have n2:cop .ne (.str d.2.2.2) (.str [])=some false:=by rw[jQ,j.2];rfl
     refine je (nK (aF rfl (by repeat array_get_dec) rfl) (aF rfl (by repeat array_get_dec) rfl)) ?_;refine ai (aK (by repeat array_get_dec) rfl rfl (aD (aD (aD (aD ?_)))));rw[dZ];refine⟨q,some (.val (.str fM)),some (.val (.int k)),.val,.val,?_⟩;simp only[bR,OL A,OL j];rw[j.1,j.2];rfl
    .have L:bB (run F w (n+1)) (.orr (.cmp .ne (.v 3) (.c (.str []))) (.cmp .ne (.v 4) (.c (.str [])))) [some (.val (aT c)),some (.own (d.1.map Pt.v)),some (.val (.int d.2.1)),some (.val (.str d.2.2.1)),some (.val (.str d.2.2.2)),some (.val (.str fM)),some (.val (.int k))]=.ok true [some (.val (aT c)),some (.own (d.1.map Pt.v)),some (.val (.int d.2.1)),some (.val (.str d.2.2.1)),some (.val (.str d.2.2.2)),some (.val (.str fM)),some (.val (.int k))]:=by
      by_cases I:d.2.2.1=[]
      .have M:¬ d.2.2.2=[]:=λz=>j ⟨I,z⟩;have n1:cop .ne (.str d.2.2.1) (.str [])=some false:=by rw[jQ,I];rfl
       have n2:cop .ne (.str d.2.2.2) (.str [])=some true:=by rw[jQ,aaR M];rfl
       exact nK (aF rfl (by repeat array_get_dec) rfl) (aF rfl (by repeat array_get_dec) rfl)
      .have n1:cop .ne (.str d.2.2.1) (.str [])=some true:=by rw[jQ,aaR I];rfl
       exact AO (aF rfl (by repeat array_get_dec) rfl)
     refine ai (aM L (λ_=>?_) λh=>absurd h (by decide));refine ai (eK (by (repeat (first|array_get_dec|exact H _|exact ex _))) ?_);refine ai (aK (by repeat array_get_dec) rfl rfl ?_);refine ai (aK (by repeat array_get_dec) rfl rfl ?_);refine ai (aK (by repeat array_get_dec) rfl rfl (aD ?_));refine ai (aK (by repeat array_get_dec) rfl rfl (aD (aD (aD (aD ?_)))));rw[dZ];refine⟨q,some (.val (.str fM)),some (.val (.int k)),.val,.val,?_⟩;simp only[bR,OL A,aaH j];rw[ac6];rfl
   .have A:¬ 0<k:=by have:=abA h;lia
    refine aD (aD (aD (aD ?_)));rw[dZ];refine⟨q,some (.val (.str fM)),some (.val (.int k)),.val,.val,?_⟩;simp only[bR,aaH A];rfl
 .subst g;simp at f;subst f;obtain⟨B,C,G⟩:=AR p gS;have e:bf p=eg (p.foldl bR gS):=rfl;rw[e];generalize p.foldl bR gS=d at *
  simp[gS]at B C G;have N:=oX d.2.1 d.2.2.1 d.2.2.2;have H:=λfr=>iR (fr:=fr) (uo (w:=w) (n:=n) Z d.2.1 d.2.2.1 d.2.2.2);have ex:=λfr=>ext d fr (by lia);have mk:toT (.lst ((eg d).map Pt.v))=some (aT (eg d)):=by rw[CJ];exact nJ (bE (by simp[eg];lia))
  refine ai (eK (by (repeat (first|array_get_dec|exact H _|exact ex _))) ?_);exact ai (bJ (zw (au rfl) mk) ⟨rfl,rfl⟩)
def lv(o:T2)(l:T0):Prop:=o=some (.own l)\/o=some (.val (.lst l))
section
variable{o:T2}{l:T0}{fr:Fr}{i:Nat}{s:Sl}
theorem lv.own:lv (some (.own l)) l:=.inl rfl
theorem lv.val:lv (some (.val (.lst l))) l:=.inr rfl
def Tw(h:lv o l):G3 true (some o)=some (.lst l):=by rcases h with rfl|rfl<;>simp
def Tz(h:lv o l):CM fr i s (some o)=some (fr.set i (some s)):=by rcases h with rfl|rfl<;>simp
def Oz(h:lv o l):o.map Sl.dz=some (.val (.lst l)):=by rcases h with rfl|rfl<;>simp
end
def nM(z:k=true)(e:fr[i]?=some o)(h:lv o l):ev P k (.v i) fr=.ok (.lst l) fr:=by
 subst z;exact au (by rw[Of,e,Tw h])
def sy(e:fr[i]?=some o)(h:lv o l):put fr i s=some (fr.set i (some s)):=by rw[G4,e,Tz h]
inductive Tq where
 |at (i:Nat)|sg (c:Nat)
deriving DecidableEq
def Pt.asks:Pt->Γ
 |.keep n=>List.replicate n []
 |.drop s=>s.map λc=>[c]
 |.put _=>[]
def asks(c:Kk):Γ:=c.flatMap Pt.asks
def Pt.told(k:Nat):Pt->List Tq
 |.keep n=>(List.range n).map λj=>.at (k+j)
 |.drop _=>[]
 |.put s=>s.map .sg
def told(k:Nat):Kk->List Tq
 |[]=>[]
 |p :: c=>p.told k++told (k+p.asks.length) c
def fZ(a b:Kk):asks (a++b)=asks a++asks b:=by simp[asks]
def jU(a b:Kk):∀k,told k (a++b)=told k a++told (k+(asks a).length) b:=by
 induction a with
 |nil=>intro k;simp[told,asks]
 |cons p a c=>
  intro k;simp only[aaW,told,c,aaX]
  congr 3
  simp[asks];lia
def oz(c:Kk):Γ×List Tq:=(asks c,told 0 c)
def OA{α:Type}(n:Nat)(a:α):rep n [a]=List.replicate n a:=by
 induction n with
 |zero=>rfl
 |succ n b=>simp only[rep,aaK,acX]at b ⊢;rw[b];rfl
def Pt.word:Pt->Θ
 |.keep _=>fM
 |.put _=>qo
 |.drop _=>mH
def vZ(a b:Θ):Bool:=!(decide (a=b) || (decide (a=qo)&&decide (b=mH)))
def oY:List Θ->Bool
 |a :: b :: r=>vZ a b&&oY (b :: r)
 |_=>true
def TF(p:Pt):Bool:=p.n != 0
def sA(c:Kk):Bool:=oY (c.map Pt.word)&&c.all TF
def gT(k:Nat)(g x:Θ):asks (cH k g x)=List.replicate k []++g.map λc=>[c]:=by
  unfold cH;by_cases a:0<k<;>by_cases b:g=[]<;>by_cases d:x=[]<;>simp[a,b,d,asks,Pt.asks]
  all_goals (have:k=0:=by lia
             subst this;simp)
def kF(k:Nat)(g x:Θ)(j:Nat):told j (cH k g x)=(List.range k).map (λi=>Tq.at (j+i))++x.map Tq.sg:=by
  unfold cH;by_cases a:0<k<;>by_cases b:g=[]<;>by_cases c:x=[]<;>simp[a,b,c,told,Pt.told,Pt.asks]
  all_goals (have:k=0:=by lia
             subst this;simp)
def Et(st:FS)(p:Pt):asks (eg (bR st p))=asks (eg st++[p])/\∀j,told j (eg (bR st p))=told j (eg st++[p]):=by
 obtain⟨ps,k,g,x⟩:=st;have c:∀a:Kk,asks (a++[p])=asks a++p.asks:=λa=>by simp[asks]
 have b:∀(a:Kk) j,told j (a++[p])=told j a++p.told (j+(asks a).length):=λa j=>by simp[jU,told]
 rw[c];cases p with
 |drop s=>
  refine⟨by simp[bR,eg,fZ,gT,Pt.asks],λj=>?_⟩;rw[b];simp[bR,eg,jU,kF,Pt.told]
 |put s=>
  refine⟨by simp[bR,eg,fZ,gT,Pt.asks],λj=>?_⟩;rw[b];simp[bR,eg,jU,kF,Pt.told]
 |keep m=>
  simp only[bR];split
  .split
   .rename_i h;obtain⟨rfl,rfl⟩:=h;refine⟨by simp[eg,fZ,gT,Pt.asks],λj=>?_⟩;rw[b];simp[eg,fZ,jU,kF,gT,Pt.told,List.range_add,acD]
   .refine⟨by simp[eg,fZ,gT,Pt.asks],λj=>?_⟩;rw[b];simp[eg,fZ,jU,kF,gT,Pt.told,acD]
  .rename_i h;have:m=0:=by lia
   subst this;refine⟨by simp[Pt.asks],λj=>?_⟩;rw[b];simp[Pt.told]
def v5(c:Kk):∀st:FS,asks (eg (c.foldl bR st))=asks (eg st++c)/\∀j,told j (eg (c.foldl bR st))=told j (eg st++c):=by
 induction c with
 |nil=>intro st;simp
 |cons p c b=>
  intro st;obtain⟨d,f⟩:=b (bR st p);obtain⟨a,g⟩:=Et st p;simp only[aba];have e:eg st++p :: c=(eg st++[p])++c:=by simp
  refine⟨?_,λj=>?_⟩
  .rw[d,e,fZ,fZ _ c,a]
  .rw[f j,e,jU,jU _ c,g j,a]
def jf(c:Kk):asks (bf c)=asks c:=by
 have:=(v5 c gS).1;simpa[bf,gS,eg,cH]using this
def fR(c:Kk)(j:Nat):told j (bf c)=told j c:=by
 have:=(v5 c gS).2 j;simpa[bf,gS,eg,cH]using this
def qq(c:Kk):oz (bf c)=oz c:=by simp[oz,jf,fR]
def kps(c:Kk):Nat:=tot (c.filter gR)
def uO(c:Kk):(asks c).length=aE c:=by
 induction c with
 |nil=>rfl
 |cons p c a=>cases p<;>simp[asks,aE,tot,gu,Pt.asks,Pt.n]at a ⊢<;>lia
def qt(c:Kk):∀j,(told j c).length=jB c:=by
 induction c with
 |nil=>intro j;rfl
 |cons p c a=>intro j;cases p<;>simp[told,jB,tot,fY,Pt.told,Pt.n,a]at a ⊢
def mK(n:Nat)(c:Kk):aE (.keep n :: c)=n+aE c:=by simp[aE,tot,gu,Pt.n]
def oA(s:Θ)(c:Kk):aE (.drop s :: c)=s.length+aE c:=by simp[aE,tot,gu,Pt.n]
def mL(s:Θ)(c:Kk):aE (.put s :: c)=aE c:=by simp[aE,tot,gu,Pt.n]
def Eu(n:Nat)(c:Kk):jB (.keep n :: c)=n+jB c:=by simp[jB,tot,fY,Pt.n]
def Ew(s:Θ)(c:Kk):jB (.drop s :: c)=jB c:=by simp[jB,tot,fY,Pt.n]
def Ey(s:Θ)(c:Kk):jB (.put s :: c)=s.length+jB c:=by simp[jB,tot,fY,Pt.n]
def L5(n:Nat)(c:Kk):cst (.keep n :: c)=cst c:=by simp[cst,tot,gR,Pt.n]
def L6(s:Θ)(c:Kk):cst (.drop s :: c)=s.length+cst c:=by simp[cst,tot,gR,Pt.n]
def L7(s:Θ)(c:Kk):cst (.put s :: c)=s.length+cst c:=by simp[cst,tot,gR,Pt.n]
def L8(n:Nat)(c:Kk):kps (.keep n :: c)=n+kps c:=by simp[kps,tot,abZ,gR,Pt.n]
def Ma(s:Θ)(c:Kk):kps (.drop s :: c)=kps c:=by simp[kps,tot,gR,Pt.n]
def Mb(s:Θ)(c:Kk):kps (.put s :: c)=kps c:=by simp[kps,tot,gR,Pt.n]
def isAt:Tq->Bool
 |.at _=>true
 |_=>false
def Hg(c:Kk):∀j,((told j c).filter isAt).length=kps c:=by
 induction c with
 |nil=>intro j;rfl
 |cons p c b=>
  intro j;have e:∀(m:Nat) (f:Nat->Nat),(((List.range m).map λi=>Tq.at (f i)).filter isAt).length=m:=λm f=>by
   rw[List.filter_eq_self.mpr]
   .simp
   .intro a d;obtain⟨i,_,rfl⟩:=List.mem_map.mp d;rfl
  have g:∀s:Θ,((s.map Tq.sg).filter isAt).length=0:=λs=>by
   rw[List.filter_eq_nil_iff.mpr]
   .rfl
   .intro a d;obtain⟨i,_,rfl⟩:=List.mem_map.mp d;simp[isAt]
  cases p with
  |keep m=>simp only[told,Pt.told,acS,aaE,e,b,kps,tot,gR,abZ,aa0,aaD,List.sum_cons,Pt.n]
  |put s=>simp only[told,Pt.told,acS,aaE,g,b,kps,gR,abZ];simp
  |drop s=>simp only[told,Pt.told,acS,aaE,b,kps,gR,abZ];simp
def Hi(c:Kk):(cst c:Int)=aE c - kps c+jB c - kps c:=by
 induction c with
 |nil=>rfl
 |cons p c a=>cases p<;>simp only[L5,L6,L7,mK,oA,mL,Eu,Ew,Ey,L8,Ma,Mb]<;>lia
def Hj(c:Kk):tot c+kps c=aE c+jB c:=by
 induction c with
 |nil=>rfl
 |cons p c a=>cases p<;>simp only[bL,Pt.n,mK,oA,mL,Eu,Ew,Ey,L8,Ma,Mb]<;>lia
def AU(c:Kk):aE (bf c)=aE c:=by rw[<-uO,<-uO,jf]
def AV(c:Kk):jB (bf c)=jB c:=by rw[<-qt _ 0,<-qt _ 0,fR]
def AW(c:Kk):kps (bf c)=kps c:=by rw[<-Hg _ 0,<-Hg _ 0,fR]
def uP(c:Kk):cst (bf c)=cst c:=by
 have a:=Hi (bf c);have b:=Hi c;rw[AU,AV,AW]at a;lia
def jV(c:Kk):tot (bf c)=tot c:=by
 have a:=Hj (bf c);have b:=Hj c;rw[AU,AV,AW]at a;lia
theorem CP:∀(a:Γ) (b:Γ),oY (a++b)=true↔oY a=true/\oY b=true/\∀x∈a.getLast?,∀y∈b.head?,vZ x y=true
 |[],b=>by simp[oY]
 |[x],[]=>by simp[oY]
 |[x],y :: b=>by simp[oY,and_comm]
 |x :: y :: a,b=>by
  have:=CP (y :: a) b;simp only[aaW]at this ⊢;simp only[oY,Bg,this,List.getLast?_cons_cons];constructor
  .rintro⟨h1,h2,h3,h4⟩;exact⟨⟨h1,h2⟩,h3,h4⟩
  .rintro⟨⟨h1,h2⟩,h3,h4⟩;exact⟨h1,h2,h3,h4⟩
def BB(k:Nat)(g x:Θ):sA (cH k g x)=true:=by
 unfold cH;by_cases a:0<k<;>by_cases b:g=[]<;>by_cases c:x=[]<;>simp[a,b,c,sA,TF,oY,vZ,Pt.word,Pt.n,fM,qo,mH]
 all_goals lia
def AX(st:FS):Prop:=sA st.1=true/\(st.1≠[]->0<st.2.1)/\∀p∈st.1.getLast?,p.word≠fM
def OB(z:sA a=true)(I:sA b=true)(h:∀p∈a.getLast?,∀q∈b.head?,vZ p.word q.word=true):sA (a++b)=true:=by
 simp only[sA,Bg]at z I ⊢;refine⟨?_,by rw[List.all_append,z.2,I.2];rfl⟩;rw[aaG,CP];refine⟨z.1,I.1,λx c y d=>?_⟩;simp at c d;obtain⟨p,e,rfl⟩:=c;obtain⟨q,f,rfl⟩:=d;exact h p e q f
def AY(z:0<k):(cH k g x).head?=some (.keep k):=by simp[cH,z]
def OC(h:w≠fM)(z:w=qo\/w=mH):vZ w fM=true:=by
 rcases z with rfl|rfl<;>decide
def OD(p:Pt):p.word=fM\/p.word=qo\/p.word=mH:=by cases p<;>simp[Pt.word]
def AZ(h:AX st):sA (eg st)=true:=by
 refine OB h.1 (BB _ _ _) λp a q b=>?_;have c:st.1≠[]:=by intro z;rw[z]at a;simp at a
 rw[AY (h.2.1 c)]at b;simp at b;subst b;have d:=h.2.2 p a;exact OC d ((OD p).resolve_left d)
def A3(h:¬ (g=[]/\x=[])):∀p∈(cH k g x).getLast?,p.word≠fM:=by
 unfold cH;by_cases b:x=[]
 .have c:g≠[]:=λz=>h ⟨z,b⟩;intro p a;simp[c,b]at a;subst a;simp[Pt.word,mH,fM]
 .intro p a;simp[b]at a;subst a;simp[Pt.word,qo,fM]
def Hl(h:AX st)(p:Pt):AX (bR st p):=by
 cases p with
 |drop s=>exact h
 |put s=>exact h
 |keep k=>
  simp only[bR];split
  .rename_i b;split
   .exact⟨h.1,λz=>by lia,h.2.2⟩
   .rename_i WM;refine⟨AZ h,λ_=>b,λp a=>?_⟩;rw[adA]at a;cases z:(cH st.2.1 st.2.2.1 st.2.2.2).getLast? with
    |none=>
     exfalso;unfold cH at z;by_cases c:st.2.2.2=[]<;>by_cases d:st.2.2.1=[]<;>simp[c,d]at z WM
    |some q=>
     rw[z]at a;simp at a;subst a;exact A3 WM q z
  .exact h
def kW(c:Kk):sA (bf c)=true:=by
 have:∀(c:Kk) (a:FS),AX a->AX (c.foldl bR a):=λc=>by
  induction c with
  |nil=>exact λa h=>h
  |cons p c b=>exact λa h=>b _ (Hl h p)
 exact AZ (this c gS ⟨rfl,λz=>absurd rfl z,λp d=>by simp[gS]at d⟩)
abbrev Bl:=Θ×Θ
abbrev BS:=List Bl×Bl
def gj(st:BS):Pt->BS
 |.drop s=>(st.1,(st.2.1++s,st.2.2))
 |.put s=>(st.1,(st.2.1,st.2.2++s))
 |.keep 0=>st
 |.keep (n+1)=>(st.1++st.2 :: List.replicate n ([],[]),([],[]))
def uq:BS:=([],([],[]))
def blocks(c:Kk):BS:=c.foldl gj uq
def pM(st:Kk×Nat)(b:Bl):Kk×Nat:=if b.1=[]/\b.2=[]then (st.1,st.2+1)else (st.1++cH st.2 b.1 b.2,1)
def pk(bs:List Bl):Kk×Nat:=bs.foldl pM ([],0)
def JX(n:Nat):∀st:Kk×Nat,(List.replicate n (([],[]):Bl)).foldl pM st=(st.1,st.2+n):=by
 induction n with
 |zero=>intro st;simp
 |succ n a=>intro st;simp[aaK,pM,a];lia
def CQ(st:BS):FS:=((pk st.1).1,(pk st.1).2,st.2.1,st.2.2)
def JY(st:BS)(p:Pt):bR (CQ st) p=CQ (gj st p):=by
 obtain⟨bs,g,x⟩:=st;cases p with
 |drop s=>rfl
 |put s=>rfl
 |keep n=>
  cases n with
  |zero=>rfl
  |succ n=>
   have e:pk (bs++(g,x) :: List.replicate n ([],[]))=((pM (pk bs) (g,x)).1,(pM (pk bs) (g,x)).2+n):=by
    simp only[pk,acu,aba,JX]
   simp only[CQ,gj,e,bR,Nat.succ_pos,aa0,pM];by_cases h:g=[]/\x=[]
   .simp[h];lia
   .lia
def JZ(c:Kk):∀st:BS,c.foldl bR (CQ st)=CQ (c.foldl gj st):=by
 induction c with
 |nil=>intro st;rfl
 |cons p c a=>intro st;simp only[aba,JY,a]
def lG(c:Kk):bf c=eg (CQ (blocks c)):=by
 unfold bf blocks;rw[<-JZ];rfl
def Ho(st:Γ×Θ):List Nat->Γ×Θ
 |[]=>(st.1++[st.2],[])
 |c :: _=>(st.1,st.2++[c])
def spT(st:Γ×Θ):Tq->Γ×Θ
 |.at _=>(st.1++[st.2],[])
 |.sg c=>(st.1,st.2++[c])
def Hq(s:Θ):∀st,(s.map λc=>[c]).foldl Ho st=(st.1,st.2++s):=by
 induction s with
 |nil=>intro st;simp
 |cons c s a=>intro st;simp[Ho,a]
def J0(n:Nat):∀st,(List.replicate n []).foldl Ho st=if n=0 then st else (st.1++st.2 :: List.replicate (n - 1) [],[]):=by
 induction n with
 |zero=>intro st;rfl
 |succ n a=>
  intro st;simp only[aaK,aba,Ho,a];cases n with
  |zero=>simp
  |succ n=>simp[aaK]
def Hr(s:Θ):∀st,(s.map Tq.sg).foldl spT st=(st.1,st.2++s):=by
 induction s with
 |nil=>intro st;simp
 |cons c s a=>intro st;simp[spT,a]
def J1(n:Nat):∀(k:Nat) st,((List.range n).map λj=>Tq.at (k+j)).foldl spT st=if n=0 then st else (st.1++st.2 :: List.replicate (n - 1) [],[]):=by
 induction n with
 |zero=>intro k st;rfl
 |succ n a=>
  intro k st;rw[ab9,aaG,acu,a];cases n with
  |zero=>simp[spT]
  |succ n=>
   simp[spT];rw[<-List.replicate_succ',aaK]
def v8(c:Kk):∀st:BS,(asks c).foldl Ho (st.1.map Prod.fst,st.2.1)=((c.foldl gj st).1.map Prod.fst,(c.foldl gj st).2.1):=by
 induction c with
 |nil=>intro st;rfl
 |cons p c a=>
  intro st;have e:asks (p :: c)=p.asks++asks c:=by simp[asks]
  rw[e,acu,aba,<-a]
  congr 1
  cases p with
  |drop s=>simp[Pt.asks,Hq,gj]
  |put s=>simp[Pt.asks,gj]
  |keep n=>
   simp only[Pt.asks,J0];cases n with
   |zero=>rfl
   |succ n=>simp[gj]
def v9(c:Kk):∀(k:Nat) (st:BS),(told k c).foldl spT (st.1.map Prod.snd,st.2.2)=((c.foldl gj st).1.map Prod.snd,(c.foldl gj st).2.2):=by
 induction c with
 |nil=>intro k st;rfl
 |cons p c a=>
  intro k st;rw[told,acu,aba,<-a (k+p.asks.length)]
  congr 1
  cases p with
  |put s=>simp[Pt.told,Hr,gj]
  |drop s=>simp[Pt.told,gj]
  |keep n=>
   simp only[Pt.told,J1];cases n with
   |zero=>rfl
   |succ n=>simp[gj]
theorem CS{α β:Type}:∀{a b:List (α×β)},a.map Prod.fst=b.map Prod.fst->a.map Prod.snd=b.map Prod.snd->a=b
 |[],[],_,_=>rfl
 |[],_ :: _,h,_=>by simp at h
 |_ :: _,[],h,_=>by simp at h
 | (x,y) :: a,(x',y') :: b,h1,h2=>by
  simp at h1 h2;rw[h1.1,h2.1,CS h1.2 h2.2]
def sC(h:oz a=oz b):blocks a=blocks b:=by
 have e:asks a=asks b:=aaL Prod.fst h;have f:told 0 a=told 0 b:=aaL Prod.snd h;have c:=v8 a uq;have g:=v8 b uq;have d:=v9 a 0 uq;have j:=v9 b 0 uq;rw[e,g]at c;rw[f,j]at d;have k:=aaL Prod.fst c;have p:=aaL Prod.snd c;have q:=aaL Prod.fst d;have r:=aaL Prod.snd d;exact Prod.ext (CS k.symm q.symm) (Prod.ext p.symm r.symm)
def uQ(a b:Kk):bf a=bf b↔oz a=oz b:=by
 constructor
 .intro h;rw[<-qq a,<-qq b,h]
 .intro h;rw[lG,lG,sC h]
def oB(a:Kk):bf (bf a)=bf a:=(uQ _ _).mpr (qq a)
def Pt.sw:Pt->Pt
 |.keep n=>.keep n
 |.put s=>.drop s
 |.drop s=>.put s
def sw(c:Kk):Kk:=c.map Pt.sw
def yL(c:Kk):∀st:BS,(sw c).foldl gj (st.1.map Prod.swap,st.2.swap)=((c.foldl gj st).1.map Prod.swap,(c.foldl gj st).2.swap):=by
 induction c with
 |nil=>intro st;rfl
 |cons p c a=>
  intro st;simp only[sw,aaD,aba]at a ⊢;rw[<-a]
  congr 1
  cases p with
  |put s=>rfl
  |drop s=>rfl
  |keep n=>cases n<;>simp[Pt.sw,gj]
def OE(h:bf a=bf b):bf (sw a)=bf (sw b):=by
 have c:=sC ((uQ a b).mp h);rw[lG,lG];have d:=yL a uq;have f:=yL b uq;have e:blocks (sw a)=blocks (sw b):=by
  unfold blocks at c ⊢;have z:((uq.1.map Prod.swap,uq.2.swap))=uq:=rfl;rw[z]at d f;rw[d,f,c]
 rw[e]
def TH(c:Kk):aE (sw c)=jB c:=by
 induction c with
 |nil=>rfl
 |cons p c a=>cases p<;>simp only[sw,aaD,Pt.sw,mK,oA,mL,Eu,Ew,Ey]at a ⊢<;>lia
def aS:Kk->List Nat->Bool
 |[],t=>t.isEmpty
 |.keep n :: c,t=>decide (n<=t.length)&&aS c (t.drop n)
 |.drop s :: c,t=>s.isPrefixOf t&&aS c (t.drop s.length)
 |.put _ :: c,t=>aS c t
def aB:Kk->List Nat->Θ
 |[],_=>[]
 |.keep n :: c,t=>t.take n++aB c (t.drop n)
 |.drop s :: c,t=>aB c (t.drop s.length)
 |.put s :: c,t=>s++aB c t
def bg:List Θ->List Nat->Bool
 |[],[]=>true
 |x :: a,c :: t=>(decide (x=[]) ||decide (x=[c]))&&bg a t
 |_,_=>false
def Hs(n:Nat)(a:Γ):∀t,bg (List.replicate n []++a) t=(decide (n<=t.length)&&bg a (t.drop n)):=by
 induction n with
 |zero=>intro t;simp
 |succ n b=>
  intro t;cases t with
  |nil=>simp[aaK,bg]
  |cons c t=>simp[aaK,bg,b]
def Ht(s:Θ)(a:Γ):∀t,bg ((s.map λc=>[c])++a) t=(s.isPrefixOf t&&bg a (t.drop s.length)):=by
 induction s with
 |nil=>intro t;simp
 |cons c s b=>
  intro t;cases t with
  |nil=>simp[bg]
  |cons d t=>
   simp only[aaD,aaW,bg,b,List.isPrefixOf,aaI,acO];by_cases h:c=d<;>simp[h]
def jg(c:Kk):∀t,aS c t=bg (asks c) t:=by
 induction c with
 |nil=>intro t;cases t<;>rfl
 |cons p c a=>
  intro t;have e:asks (p :: c)=p.asks++asks c:=by simp[asks]
  rw[e];cases p with
  |keep n=>simp[aS,Pt.asks,Hs,a]
  |drop s=>simp[aS,Pt.asks,Ht,a]
  |put s=>simp[aS,Pt.asks,a]
def A4(c:Kk)(t:Θ):aS (bf c) t=aS c t:=by rw[jg,jg,jf]
def pick(t:Θ):Tq->Θ
 |.at i=>(t[i]?).toList
 |.sg c=>[c]
def Hu(c:Kk):∀(t:Θ) (k:Nat),aB c (t.drop k)=(told k c).flatMap (pick t):=by
 induction c with
 |nil=>intro t k;rfl
 |cons p c a=>
  intro t k;rw[told,adG,<-a];cases p with
  |put s=>
   simp only[aB,Pt.told,Pt.asks,acJ,Nat.add_zero]
   congr 1
   induction s with
   |nil=>rfl
   |cons c s a=>simp[pick]at a ⊢;exact a
  |drop s=>simp[aB,Pt.told,Pt.asks,abU]
  |keep n=>
   simp only[aB,Pt.told,Pt.asks,adx,aa9]
   congr 1
   induction n generalizing k with
   |zero=>simp
   |succ n b=>
    rw[ab9,aaG,adG,<-b];rw[List.take_add_one];simp[pick]
def j3(c:Kk)(t:Θ):aB (bf c) t=aB c t:=by
 have a:=Hu (bf c) t 0;have b:=Hu c t 0;rw[fR,<-b]at a;simpa using a
def J2(c:Kk):∀t,aS c t=true->aS (sw c) (aB c t)=true/\aB (sw c) (aB c t)=t:=by
 induction c with
 |nil=>intro t h;simp[aS]at h;subst h;simp[sw,aS,aB]
 |cons p c d=>
  intro t h;cases p with
  |keep n=>
   simp only[aS,Bg,abc]at h;obtain⟨a,b⟩:=d _ h.2;have g:(t.take n).length=n:=by simp;lia
   simp only[sw,aaD,Pt.sw,aB,aS]at a b ⊢;have e:(t.take n++aB c (t.drop n)).drop n=aB c (t.drop n):=by rw[List.drop_append_of_le_length (by lia),aby (by lia)];rfl
   have f:(t.take n++aB c (t.drop n)).take n=t.take n:=by rw[acM (by lia),List.take_take,Nat.min_self]
   rw[e,f,a,b];simp;lia
  |drop s=>
   simp only[aS,Bg]at h;obtain⟨a,b⟩:=d _ h.2;simp only[sw,aaD,Pt.sw,aB,aS]at a b ⊢;rw[b];refine⟨a,?_⟩;obtain⟨r,rfl⟩:=List.isPrefixOf_iff_prefix.mp h.1;simp
  |put s=>
   obtain⟨a,b⟩:=d _ h;simp only[sw,aaD,Pt.sw,aB,aS]at a b ⊢;simp[a,b]
abbrev kG(z:Nat):Fn:=⟨2,4,(.cons (.set 2 (.c (.int 0))) (.cons (.for (.one 3) (.seq (.v 0)) (.cons (.iff (.an (.cmp .eq (.ix (.v 3) (.c (.int 0))) (.c (.str [100,114,111,112]))) (.cmp .ne (.sl (.v 1) (.yes (.v 2)) (.yes (.bin .add (.v 2) (.cl z (.cons (.v 3) .nil))))) (.ix (.v 3) (.c (.int 1))))) (.cons (.ret (.c (.bl false))) .nil) .nil) (.cons (.iff (.cmp .ne (.ix (.v 3) (.c (.int 0))) (.c (.str [112,117,116]))) (.cons (.set 2 (.bin .add (.v 2) (.cl z (.cons (.v 3) .nil)))) .nil) .nil) .nil))) (.cons (.ret (.cmp .eq (.v 2) (.bi .len (.cons (.v 1) .nil)))) .nil)))⟩
abbrev lS(z:Nat):Fn:=⟨2,6,(.cons (.iff (.nt (.cl z (.cons (.v 0) (.cons (.v 1) .nil)))) (.cons (.fP 0) .nil) .nil) (.cons (.set 2 (.lst .nil)) (.cons (.set 3 (.c (.int 0))) (.cons (.for (.many [4,5]) (.seq (.v 0)) (.cons (.iff (.cmp .eq (.v 4) (.c (.str [112,117,116]))) (.cons (.exp (.me .append (.v 2) (.cons (.v 5) .nil))) .nil) (.cons (.iff (.cmp .eq (.v 4) (.c (.str [100,114,111,112]))) (.cons (.set 3 (.bin .add (.v 3) (.bi .len (.cons (.v 5) .nil)))) .nil) (.cons (.exp (.me .append (.v 2) (.cons (.sl (.v 1) (.yes (.v 3)) (.yes (.bin .add (.v 3) (.v 5)))) .nil))) (.cons (.set 3 (.bin .add (.v 3) (.v 5))) .nil))) .nil)) .nil)) (.cons (.ret (.me .join (.c (.str [])) (.cons (.v 2) .nil))) .nil)))))⟩
def sD(z:Nat):Fn:=⟨1,1,(.cons (.ret (.cl z (.cons (.tup (.cons (.tup (.cons (.c (.str [107,101,101,112])) (.cons (.v 0) .nil))) .nil)) .nil))) .nil)⟩
abbrev Hv:Fn:=⟨2,6,(.cons (.set 2 (.c (.int 0))) (.cons (.set 3 (.c (.str []))) (.cons (.for (.many [4,5]) (.seq (.v 0)) (.cons (.iff (.cmp .eq (.v 4) (.c (.str [112,117,116]))) (.cons (.set 3 (.bin .add (.v 3) (.v 5))) .nil) (.cons (.iff (.cmp .eq (.v 4) (.c (.str [100,114,111,112]))) (.cons (.iff (.cmp .ne (.sl (.v 1) (.yes (.v 2)) (.yes (.bin .add (.v 2) (.bi .len (.cons (.v 5) .nil))))) (.v 5)) (.cons (.ret (.c (.aN))) .nil) .nil) (.cons (.set 2 (.bin .add (.v 2) (.bi .len (.cons (.v 5) .nil)))) .nil)) (.cons (.set 3 (.bin .add (.v 3) (.sl (.v 1) (.yes (.v 2)) (.yes (.bin .add (.v 2) (.v 5)))))) (.cons (.set 2 (.bin .add (.v 2) (.v 5))) .nil))) .nil)) .nil)) (.cons (.ret (.fV (.cmp .eq (.v 2) (.bi .len (.cons (.v 1) .nil))) (.v 3) (.c (.aN)))) .nil))))⟩
def lT{α:Type}(l:List α)(p k:Nat):cut l (some (p:Int)) (some ((p:Int)+k))=(l.drop p).take k:=by
 have a:¬ (p:Int)<0:=by lia
 have b:¬ (p:Int)+k<0:=by lia
 have c:((p:Int)+k).toNat=p+k:=by lia
 simp only[cut,aY,a,b,acE,c,acv];by_cases d:p<=l.length
 .rw[adl d];by_cases f:p+k<=l.length
  .congr 1;lia
  .rw[ada (by lia),abb (by simp),abb (by simp;lia)]
 .have e:min p l.length=l.length:=by lia
  rw[e,aby (aaB _),aby (by lia)];simp
def pre_take{s t:Θ}:s.isPrefixOf t=decide (t.take s.length=s):=by
 cases h:s.isPrefixOf t with
 |true=>
  obtain⟨r,rfl⟩:=List.isPrefixOf_iff_prefix.mp h;simp
 |false=>
  symm
  rw[adi];intro e;have:=List.isPrefixOf_iff_prefix.mpr (by have z:=List.take_prefix s.length t;rw[e]at z;exact z);rw[h]at this;exists this
def iG(a b:Kk):aE (a++b)=aE a+aE b:=by simp[aE,tot]
def iH:∀{t:Θ},aS c t=true->t.length=aE c:=by
 induction c with
 |nil=>intro t h;simp[aS]at h;subst h;rfl
 |cons p c a=>
  intro t h;cases p with
  |keep n=>simp only[aS,Bg,abc]at h;have:=a h.2;rw[mK];simp at this;lia
  |drop s=>
   simp only[aS,Bg]at h;have b:=a h.2;obtain⟨r,rfl⟩:=List.isPrefixOf_iff_prefix.mp h.1;rw[oA];simp at b ⊢;lia
  |put s=>exact a h
def nP(c:Kk):∀t,(aB c t).length<=t.length+tot c:=by
 induction c with
 |nil=>intro t;simp[aB]
 |cons p c a=>
  intro t;rw[bL];cases p with
  |keep n=>have:=a (t.drop n);simp[aB,Pt.n]at this ⊢;lia
  |drop s=>have:=a (t.drop s.length);simp[aB,Pt.n]at this ⊢;lia
  |put s=>have:=a t;simp[aB,Pt.n]at this ⊢;lia
section
variable{F:List Fn}{w n aC cS i:Nat}
def J3(c:Kk)(t:Θ)(q:Nat)(p:Pt)(l:Kk)(h:aS c t=(decide (q<=t.length)&&aS (p :: l) (t.drop q))):
  (fY p=true->(∃s,p=.drop s/\(if (t.drop q).take s.length=s then aS c t=(decide (q+s.length<=t.length)&&aS l (t.drop (q+s.length)))else aS c t=false)))/\
  (fY p=false->aS c t=(decide (q+aE [p]<=t.length)&&aS l (t.drop (q+aE [p])))):=by
 cases p with
 |drop s=>
  refine⟨λ_=>⟨s,rfl,?_⟩,λz=>by simp[fY]at z⟩;simp only[aS,pre_take,aa9]at h;split
  .rename_i d;rw[h];simp only[d,decide_true,Bool.true_and];have f:=aaL List.length d;simp at f;by_cases b:q<=t.length
   .by_cases a:q+s.length<=t.length
    .simp[b,a]
    .lia
   .have:¬ q+s.length<=t.length:=by lia
    simp[b,this]
  .rename_i d;rw[h];simp[d]
 |keep k=>
  refine⟨λz=>by simp[fY]at z,λ_=>?_⟩;have e:aE [.keep k]=k:=by rfl
  rw[h,e];simp only[aS,aa9,acF];by_cases b:q<=t.length
  .by_cases a:q+k<=t.length
   .have:k<=t.length - q:=by lia
    simp[b,a,this]
   .have:¬ k<=t.length - q:=by lia
    simp[a,this]
  .have:¬ q+k<=t.length:=by lia
   simp[b,this]
 |put s=>
  refine⟨λz=>by simp[fY]at z,λ_=>?_⟩;have e:aE [.put s]=0:=by rw[mL];rfl
  rw[h,e];simp[aS]
def A5(Z:F[aC]?=some dj)(hf:F[i]?=some (kG aC))(c:Kk)(t:Θ)(h1:tot c<=10000)(h2:t.length<=10000):run F w (n+2) i [.val (aT c),.val (.str t)]=some (.bl (aS c t),[]):=by
 refine bK hf rfl ?_;refine ai (aK (by repeat array_get_dec) rfl rfl ?_);refine ai (kC (ef (er rfl) rfl) ?_);refine gn (λp l fr=>p++l=c/\aS c t=(decide (aE p<=t.length)&&aS l (t.drop (aE p)))/\∃a,vo a/\fr=[some (.val (aT c)),some (.val (.str t)),some (.val (.int (aE p))),a]) (λp x l fr ⟨d,f,a,r,j⟩=>?_) (λp fr ⟨d,f,a,r,j⟩=>?_) c [] _ ⟨rfl,by simp[aE,tot],none,.none,rfl⟩
 .subst j;have AS:tot p+x.n+tot l=tot c:=by rw[<-d,eU,bL];lia
  have sz:=λfr=>ig (fr:=fr) (kU (w:=w) (n:=n) Z x (by lia));obtain⟨y,g⟩:=J3 c t (aE p) x l f;have B:(p++[x])++l=c:=by simpa using d
  have q:=iG p [x];have C:((aE (p++[x]):Nat))=(aE p:Int)+(aE [x]):=by rw[q];simp
  cases x with
  |drop s=>
   obtain⟨J,e,y⟩:=y rfl;cases e;have K:fQ (.str t) (some (aE p)) (some ((aE p)+((Pt.drop s).n)))=some (.str ((t.drop (aE p)).take s.length)):=by rw[jt];exact aaL (λz=>some (V.str z)) (lT t (aE p) s.length)
   by_cases A:(t.drop (aE p)).take s.length=s
   .rw[OL A]at y;have H:cop .ne (.str ((t.drop (aE p)).take s.length)) (.str s)=some false:=by rw[jQ,abn A];rfl
    refine di (bind1 rfl r) (je (jd (b2:=false) (aF rfl (by repeat array_get_dec) rfl) (aF rfl (by (repeat (first|array_get_dec|exact sz _))) rfl)) ?_);refine ai (aM (by repeat array_get_dec) (λ_=>?_) λh=>absurd h (by decide));refine ai (aK (by (repeat (first|array_get_dec|exact sz _))) rfl rfl (aD (aD ?_)));rw[dZ];exact⟨B,by rw[q];exact y,some (.val (Pt.drop s).v),.val,by rw[C];rfl⟩
   .rw[aaH A]at y;have H:cop .ne (.str ((t.drop (aE p)).take s.length)) (.str s)=some true:=by rw[jQ,aaR A];rfl
    refine di (bind1 rfl r) (ai (aM (b:=true) (jd (b2:=true) (aF rfl (by repeat array_get_dec) rfl) (aF rfl (by (repeat (first|array_get_dec|exact sz _))) rfl)) (λ_=>?_) λh=>absurd h (by decide)));refine ai (bJ (by repeat array_get_dec) ?_);show nx _ _ _ _ _ _;rw[y];exact⟨rfl,rfl⟩
  |keep k=>
   have g:=g rfl;have G:aE [.keep k]=k:=by rw[mK];rfl
   rw[G]at g q C;refine di (bind1 rfl r) (je (r8 (aF rfl (by repeat array_get_dec) rfl)) ?_);refine ai (aM (by repeat array_get_dec) (λ_=>?_) λh=>absurd h (by decide));refine ai (aK (by (repeat (first|array_get_dec|exact sz _))) rfl rfl (aD (aD ?_)));rw[dZ];exact⟨B,by rw[q];exact g,some (.val (Pt.keep k).v),.val,by rw[C];rfl⟩
  |put s=>
   have g:=g rfl;have G:aE [.put s]=0:=by rw[mL];rfl
   rw[G]at g q;refine di (bind1 rfl r) (je (r8 (aF rfl (by repeat array_get_dec) rfl)) ?_);refine ai (aM (by repeat array_get_dec) (zS ·) λ_=>aD (aD ?_));rw[dZ];exact⟨B,by rw[q];exact g,some (.val (Pt.put s).v),.val,by rw[q];rfl⟩
 .subst j;simp at d;subst d;have e:decide ((aE p:Int)=(t.length:Nat))=aS p t:=by
   rw[f];simp only[aS];by_cases I:aE p=t.length
   .have:(aE p:Int)=t.length:=by lia
    simp[this,I]
   .have:¬ (aE p:Int)=t.length:=by lia
    simp[this];intro h;lia
  have L:cZ .len [.str t]=some (.int (t.length:Nat)):=abI (by lia);have M:cop .eq (.int (aE p)) (.int (t.length:Nat))=some (aS p t):=by rw[jG,e]
  have sh:fK [some (.val (aT p)),some (.val (.str t)),some (.val (.int (aE p))),a]=[some (.val (aT p)),some (.val (.str t)),some (.val (.int (aE p))),a]:=by
   show _ :: _ :: _ :: [a.map Sl.dz]=_;rw[dF r];rfl
  refine ai (bJ (v:=.bl (aS p t)) (af:=[some (.val (aT p)),some (.val (.str t)),some (.val (.int (aE p))),a]) ?_ ⟨rfl,rfl⟩);rw[sh];repeat array_get_dec
def A6(Z:F[aC]?=some dj)(hf:F[cS]?=some (kG aC))(hd:F[i]?=some (lS cS))(c:Kk)(t:Θ)(h1:tot c<=10000)(h2:t.length<=10000)(h3:c.length<=10000)(h:aS c t=true):run F w (n+3) i [.val (aT c),.val (.str t)]=some (.str (aB c t),[]):=by
 refine bK hd rfl ?_;have B:=λfr=>call2 (fr:=fr) (A5 (w:=w) (n:=n) Z hf c t h1 h2);rw[h]at B;refine ai (aM (qk (aF rfl (by (repeat (first|array_get_dec|exact B _))) rfl)) (zS ·) λ_=>aD ?_);refine ai (gQ (by repeat array_get_dec) rfl rfl ?_);refine ai (aK (by repeat array_get_dec) rfl rfl ?_);refine ai (kC (ef (er rfl) rfl) ?_);refine gn (λp l fr=>p++l=c/\∃ps a b,vo a/\vo b/\ps.length<=p.length/\ps.flatten++aB l (t.drop (aE p))=aB c t/\fr=[some (.val (aT c)),some (.val (.str t)),some (.own (ps.map V.str)),some (.val (.int (aE p))),a,b]) (λp x l fr ⟨d,ps,a,b,g,j,H,hd,f⟩=>?_) (λp fr ⟨d,ps,a,b,g,j,H,hd,f⟩=>?_) c [] _ ⟨rfl,[],none,none,.none,.none,by simp,by simp[aE,tot],rfl⟩
 .subst f;have A:(p++[x])++l=c:=by simpa using d
  have e:=iG p [x];have y:((aE (p++[x]):Nat):Int)=(aE p:Int)+(aE [x]:Nat):=by rw[e];simp
  have AS:tot p+x.n+tot l=tot c:=by rw[<-d,eU,bL];lia
  have C:p.length+l.length+1=c.length:=by rw[<-d];simp;lia
  have G:∀(fr:Fr) (z:Θ),jL .append 2 [.str z] fr (some (some (.own (ps.map V.str))))=.ok .aN (fr.set 2 (some (.own ((ps++[z]).map V.str)))):=λfr z=>by
   rw[aaG];exact tM (by simp;lia)
  cases x with
  |put s=>
   have q:aE [.put s]=0:=by rw[mL];rfl
   rw[q]at e;refine di (ir rfl g rfl j) (ai (aM (by repeat array_get_dec) (λ_=>?_) λh=>absurd h (by decide)));refine ai (eK (by (repeat (first|array_get_dec|exact G _ _))) (aD (aD ?_)));rw[dZ];exact⟨A,ps++[s],some (.val (.str qo)),some (.val (.str s)),.val,.val,by simp;lia,by rw[e];simpa[aB]using hd,by rw[e];rfl⟩
  |drop s=>
   have q:aE [.drop s]=s.length:=by rw[oA];rfl
   rw[q]at e y;have I:s.length<=tot c:=by simp only[Pt.n]at AS;lia
   have K:cZ .len [.str s]=some (.int (s.length:Nat)):=abI (by lia);refine di (ir rfl g rfl j) (ai (aM (by repeat array_get_dec) (zS ·) λ_=>?_));refine ai (aM (by repeat array_get_dec) (λ_=>?_) λh=>absurd h (by decide));refine ai (aK (by repeat array_get_dec) rfl rfl (aD (aD (aD ?_))));rw[dZ];exact⟨A,ps,some (.val (.str mH)),some (.val (.str s)),.val,.val,by simp;lia,by rw[e];simpa[aB]using hd,by rw[y];rfl⟩
  |keep k=>
   have q:aE [.keep k]=k:=by rw[mK];rfl
   rw[q]at e y;have L:fQ (.str t) (some (aE p:Int)) (some ((aE p:Int)+(k:Nat)))=some (.str ((t.drop (aE p)).take k)):=by rw[jt,lT]
   refine di (ir rfl g rfl j) (ai (aM (by repeat array_get_dec) (zS ·) λ_=>?_));refine ai (aM (by repeat array_get_dec) (zS ·) λ_=>?_);refine ai (eK (by (repeat (first|array_get_dec|exact G _ _))) ?_);refine ai (aK (by repeat array_get_dec) rfl rfl (aD (aD (aD ?_))));rw[dZ];exact⟨A,ps++[(t.drop (aE p)).take k],some (.val (.str fM)),some (.val (.int k)),.val,.val,by simp;lia,by rw[e];simpa[aB]using hd,by rw[y];rfl⟩
 .subst f;simp at d;subst d;have r:ps.flatten=aB p t:=by simpa[aB]using hd
  have M:=nP p t;have J:=LY (l:=ps) (by rw[r];lia);rw[r]at J;have sh:fK [some (.val (aT p)),some (.val (.str t)),some (.own (ps.map V.str)),some (.val (.int (aE p))),a,b]=[some (.val (aT p)),some (.val (.str t)),some (.val (.lst (ps.map V.str))),some (.val (.int (aE p))),a,b]:=by
   show _ :: _ :: _ :: _ :: a.map Sl.dz :: [b.map Sl.dz]=_;rw[dF g,dF j];rfl
  refine ai (bJ (v:=.str (aB p t)) (af:=[some (.val (aT p)),some (.val (.str t)),some (.val (.lst (ps.map V.str))),some (.val (.int (aE p))),a,b]) ?_ ⟨rfl,rfl⟩);rw[sh];repeat array_get_dec
end
def Hw(ns:Q1)(at_:Int)(s:Θ)(k:Nat):tot (lD ns at_ s k)<=3:=by
 have d:=lR ns (at_+4*k+2) (many:=2) (by decide);unfold lD;rw[eU];have a:tot (if dg ns (at_+4*k) 4=0 then [Pt.put (rep (1+dg ns (at_+4*k+2) 2).toNat [[97,98,122].getD (dg ns (at_+4*k+1) 3).toNat 0])]else [])<=2:=by
  split
  .simp[tot,Pt.n,rep];lia
  .simp[tot]
 cases s[k]? with
 |none=>simp[tot]at a ⊢;lia
 |some c=>
  have b:tot [if 0<dg ns (at_+4*k+3) 3 then Pt.keep 1 else Pt.drop [c]]<=1:=by split<;>simp[tot,Pt.n]
  lia
theorem yM(ns:Q1)(at_:Int)(s:Θ):∀k,tot (gI ns at_ s k)<=3*k
 |0=>by simp[gI,tot]
 |k+1=>by
  have a:=Hw ns at_ s k;have b:=yM ns at_ s k;rw[mJ,eU];lia
theorem uR:∀{a:Γ}{t:Θ},bg a t=true->a.length=t.length
 |[],[],_=>rfl
 |x :: a,c :: t,h=>by simp[bg]at h;simp[uR h.2]
 |[],_ :: _,h=>by simp[bg]at h
 |_ :: _,[],h=>by simp[bg]at h
theorem uS:∀{a b:Γ}{t u:Θ},bg a t=true->bg b u=true->bg (a++b) (t++u)=true
 |[],_,[],_,_,hb=>hb
 |x :: a,b,c :: t,u,ha,hb=>by
  simp only[bg,Bg]at ha;simp only[aaW,bg,Bg];exact⟨ha.1,uS ha.2 hb⟩
 |[],_,_ :: _,_,ha,_=>by simp[bg]at ha
 |_ :: _,_,[],_,ha,_=>by simp[bg]at ha
def OF(ns:Q1)(at_:Int)(s:Θ)(k:Nat):bg (asks (lD ns at_ s k)) (s[k]?).toList=true:=by
 unfold lD;rw[fZ];have a:asks (if dg ns (at_+4*k) 4=0 then [Pt.put (rep (1+dg ns (at_+4*k+2) 2).toNat [[97,98,122].getD (dg ns (at_+4*k+1) 3).toNat 0])]else [])=[]:=by
  split<;>simp[asks,Pt.asks]
 rw[a];cases s[k]? with
 |none=>simp[asks,bg]
 |some c=>simp only;split<;>simp[asks,Pt.asks,bg]
theorem Hx(ns:Q1)(at_:Int)(s:Θ):∀k,bg (asks (gI ns at_ s k)) (s.take k)=true
 |0=>by simp[gI,asks,bg]
 |k+1=>by
  rw[mJ,fZ,List.take_add_one];exact uS (Hx ns at_ s k) (OF ns at_ s k)
def CT(ns:Q1)(at_:Int)(s:Θ):aS (chg ns at_ s) s=true:=by
 have:=Hx ns at_ s (s.length+1);rw[abb (by lia)]at this;rw[jg];exact this
def Hy(c:Kk):Prop:=∀s,Pt.put s∈c->113∉s
def CU(ns:Q1)(at_:Int)(s:Θ):Hy (chg ns at_ s):=by
 intro x b;unfold chg gI at b;rw[List.mem_flatMap]at b;obtain⟨k,-,a⟩:=b;unfold lD at a;rw[acd]at a;have e:=lR ns (at_+4*k+1) (many:=3) (by decide);have f:=pL ns (at_+4*k+1) (many:=3) (by decide);rcases a with a|a
 .split at a
  .simp only[aa2,Pt.put.injEq]at a;subst a;rw[OA];intro h;have:=List.eq_of_mem_replicate h;generalize dg ns (at_+4*k+1) 3=d at *
   have:d=0\/d=1\/d=2:=by lia
   rcases this with rfl|rfl|rfl<;>simp_all
  .simp at a
 .cases h:s[k]? with
  |none=>simp[h]at a
  |some c=>simp only[h,aa2]at a;split at a <;> exists a
inductive At where
 |k|d (c:Nat)|p (c:Nat)
abbrev Kj:=List At
def Pt.aX:Pt->Kj
 |.keep n=>List.replicate n .k
 |.drop s=>s.map .d
 |.put s=>s.map .p
def aX(c:Kk):Kj:=c.flatMap Pt.aX
def mU(a b:Kk):aX (a++b)=aX a++aX b:=by simp[aX]
def gb(p:Pt)(c:Kk):aX (p :: c)=p.aX++aX c:=by simp[aX]
def A7(p:Pt):p.aX.length=p.n:=by cases p<;>simp[Pt.aX,Pt.n]
def mV(c:Kk):(aX c).length=tot c:=by
 induction c with
 |nil=>rfl
 |cons p c a=>rw[gb,aaE,A7,a,bL]
def tA:Nat->Kj->List Tq
 |_,[]=>[]
 |i,.k :: a=>.at i :: tA (i+1) a
 |i,.d _ :: a=>tA (i+1) a
 |i,.p c :: a=>.sg c :: tA i a
def aA:Kj->Γ
 |[]=>[]
 |.k :: a=>[] :: aA a
 |.d c :: a=>[c] :: aA a
 |.p _ :: a=>aA a
def dA:Kj->List Nat->Θ
 |[],_=>[]
 |.k :: a,t=>t.take 1++dA a (t.drop 1)
 |.d _ :: a,t=>dA a (t.drop 1)
 |.p c :: a,t=>c :: dA a t
def ur:At->At
 |.k=>.k
 |.d c=>.p c
 |.p c=>.d c
def cA:Kj->Nat
 |[]=>0
 |.k :: a=>cA a
 |_ :: a=>cA a+1
theorem wc:∀a b:Kj,aA (a++b)=aA a++aA b
 |[],_=>rfl
 |.k :: a,b=>by simp[aA,wc a b]
 |.d c :: a,b=>by simp[aA,wc a b]
 |.p c :: a,b=>by simp[aA,wc a b]
theorem we:∀(a b:Kj) (i:Nat),tA i (a++b)=tA i a++tA (i+(aA a).length) b
 |[],_,_=>rfl
 |.k :: a,b,i=>by simp[tA,aA,we a b,acD,abU 1]
 |.d c :: a,b,i=>by simp[tA,aA,we a b,acD,abU 1]
 |.p c :: a,b,i=>by simp[tA,aA,we a b]
theorem wg:∀a b:Kj,cA (a++b)=cA a+cA b
 |[],b=>by simp[cA]
 |.k :: a,b=>by simp[cA,wg a b]
 |.d c :: a,b=>by simp[cA,wg a b];lia
 |.p c :: a,b=>by simp[cA,wg a b];lia
def Mc(p:Pt):aA p.aX=p.asks:=by
 cases p with
 |keep n=>simp only[Pt.aX,Pt.asks];induction n<;>simp_all [aaK,aA]
 |drop s=>simp only[Pt.aX,Pt.asks];induction s<;>simp_all [aA]
 |put s=>simp only[Pt.aX,Pt.asks];induction s<;>simp_all [aA]
def VT(p:Pt):∀i,tA i p.aX=p.told i:=by
 cases p with
 |keep n=>
  simp only[Pt.aX,Pt.told];induction n with
  |zero=>intro i;rfl
  |succ n a=>intro i;simp only[aaK,tA,a,adn,aaD,acG];simp[acw,acD,abU 1]
 |drop s=>intro i;simp only[Pt.aX,Pt.told];induction s generalizing i<;>simp_all [tA]
 |put s=>intro i;simp only[Pt.aX,Pt.told];induction s generalizing i<;>simp_all [tA]
def VU(p:Pt):cA p.aX=cst [p]:=by
 cases p with
 |keep n=>simp only[Pt.aX];rw[L5];induction n<;>simp_all [aaK,cA,cst,tot]
 |drop s=>simp only[Pt.aX];rw[L6];induction s<;>simp_all [cA,cst,tot]
 |put s=>simp only[Pt.aX];rw[L7];induction s<;>simp_all [cA,cst,tot]
def jh(c:Kk):asks c=aA (aX c):=by
 induction c with
 |nil=>rfl
 |cons p c a=>rw[gb,wc,Mc,<-a];simp[asks]
def gc(c:Kk):∀i,told i c=tA i (aX c):=by
 induction c with
 |nil=>intro i;rfl
 |cons p c a=>intro i;rw[gb,we,VT,Mc,<-a,told]
def tP(c:Kk):cst c=cA (aX c):=by
 induction c with
 |nil=>rfl
 |cons p c a=>
  rw[gb,wg,VU,<-a];simp[cst,tot];cases p<;>simp[abZ,gR]
def A8(c:Kk):aX (sw c)=(aX c).map ur:=by
 induction c with
 |nil=>rfl
 |cons p c a=>
  have:aX (sw (p :: c))=p.sw.aX++aX (sw c):=by simp[aX,sw]
  rw[this,a,gb,aaG]
  congr 1
  cases p<;>simp[Pt.sw,Pt.aX,ur,acw]
def gz:∀(c:Kk) (t:Θ),aB c t=dA (aX c) t:=by
 have k:∀(n:Nat) (a:Kj) (t:Θ),dA (List.replicate n .k++a) t=t.take n++dA a (t.drop n):=λn=>by
  induction n with
  |zero=>intro a t;simp
  |succ n b=>
   intro a t;simp only[aaK,aaW,dA,b,aa9];cases t with
   |nil=>simp
   |cons c t=>simp[abU 1]
 have d:∀(s:Θ) (a:Kj) (t:Θ),dA (s.map .d++a) t=dA a (t.drop s.length):=λs=>by
  induction s with
  |nil=>intro a t;simp
  |cons c s b=>intro a t;simp[dA,b,abU 1]
 have p:∀(s:Θ) (a:Kj) (t:Θ),dA (s.map .p++a) t=s++dA a t:=λs=>by
  induction s with
  |nil=>intro a t;simp
  |cons c s b=>intro a t;simp[dA,b]
 intro c;induction c with
 |nil=>intro t;rfl
 |cons q c b=>
  intro t;rw[gb];cases q with
  |keep n=>simp only[Pt.aX,k,aB,b]
  |drop s=>simp only[Pt.aX,d,aB,b]
  |put s=>simp only[Pt.aX,p,aB,b]
def Hz:Kj->Bool
 |.d _ :: _=>false
 |_=>true
inductive Th:Kj->Kj->Kj->Prop
 |nil:Th [] [] []
 |d {a b r c}:Th a b r->Th (.d c :: a) b (.d c :: r)
 |p {a b r c}:Hz a=true->Th a b r->Th a (.p c :: b) (.p c :: r)
 |kk {a b r}:Th a b r->Th (.k :: a) (.k :: b) (.k :: r)
 |kd {a b r c}:Th a b r->Th (.k :: a) (.d c :: b) (.d c :: r)
 |pk {a b r c}:Th a b r->Th (.p c :: a) (.k :: b) (.p c :: r)
 |pd {a b r c}:Th a b r->Th (.p c :: a) (.d c :: b) r
def sub(L:List Tq):Tq->Tq
 |.at j=>L.getD j (.sg 0)
 |.sg c=>.sg c
def wj(h:L.length=j):sub (L++q :: M) (.at j)=q:=by
 subst h;simp[sub]
def Th.told(h:Th a b r):∀(i j:Nat) (L:List Tq),L.length=j->tA i r=(tA j b).map (sub (L++tA i a)):=by
 induction h with
 |nil=>intro i j L e;rfl
 |d h f=>intro i j L e;exact f (i+1) j L e
 |p _ h f=>intro i j L e;simp only[tA,aaD];rw[f i j L e];rfl
 |kk h f=>
  intro i j L e;simp only[tA,aaD];rw[f (i+1) (j+1) (L++[.at i]) (by simp[e]),wj e];simp
 |kd h f=>
  intro i j L e;simp only[tA];rw[f (i+1) (j+1) (L++[.at i]) (by simp[e])];simp
 |@pk _ _ _ c h f=>
  intro i j L e;simp only[tA,aaD];rw[f i (j+1) (L++[.sg c]) (by simp[e]),wj e];simp
 |@pd _ _ _ c h f=>
  intro i j L e;simp only[tA];rw[f i (j+1) (L++[.sg c]) (by simp[e])];simp
def Th.back(h:Th a b r):∀(i j:Nat) (L:List Tq),L.length=j->tA i (r.map ur)=(tA j (a.map ur)).map (sub (L++tA i (b.map ur))):=by
 induction h with
 |nil=>intro i j L e;rfl
 |d h f=>intro i j L e;simp only[aaD,ur,tA];rw[f i j L e];rfl
 |p _ h f=>intro i j L e;exact f (i+1) j L e
 |kk h f=>
  intro i j L e;simp only[aaD,ur,tA];rw[f (i+1) (j+1) (L++[.at i]) (by simp[e]),wj e];simp
 |@kd _ _ _ c h f=>
  intro i j L e;simp only[aaD,ur,tA];rw[f i (j+1) (L++[.sg c]) (by simp[e]),wj e];simp
 |pk h f=>
  intro i j L e;simp only[aaD,ur,tA];rw[f (i+1) (j+1) (L++[.at i]) (by simp[e])];simp
 |@pd _ _ _ c h f=>
  intro i j L e;simp only[aaD,ur,tA];rw[f i (j+1) (L++[.sg c]) (by simp[e])];simp
def Th.fit(h:Th a b r):∀t,bg (aA a) t=true->bg (aA b) (dA a t)=true->bg (aA r) t=true:=by
 induction h with
 |nil=>intro t c _;exact c
 |d h f=>
  intro t c e;cases t with
  |nil=>simp[aA,bg]at c
  |cons x t=>simp only[aA,bg,Bg]at c ⊢;exact⟨c.1,f t c.2 e⟩
 |p _ h f=>intro t c e;exact f t c e
 |kk h f=>
  intro t c e;cases t with
  |nil=>simp[aA,bg]at c
  |cons x t=>simp only[aA,bg,Bg,dA,abq,List.take_zero,acO,abV,adw]at c e ⊢;exact⟨c.1,f t c.2 e.2⟩
 |kd h f=>
  intro t c e;cases t with
  |nil=>simp[aA,bg]at c
  |cons x t=>simp only[aA,bg,Bg,dA,abq,List.take_zero,acO,abV,adw]at c e ⊢;exact⟨e.1,f t c.2 e.2⟩
 |pk h f=>intro t c e;simp only[aA,dA,bg,Bg]at c e ⊢;exact f t c e.2
 |pd h f=>intro t c e;simp only[aA,dA,bg,Bg]at c e ⊢;exact f t c e.2
def Th.all:∀(n:Nat) (a b:Kj) (t:Θ),a.length+b.length<=n->bg (aA a) t=true->bg (aA b) (dA a t)=true->∃r,Th a b r:=by
 intro n;induction n with
 |zero=>
  intro a b t g _ _;obtain rfl:a=[]:=List.length_eq_zero_iff.mp (by lia);obtain rfl:b=[]:=List.length_eq_zero_iff.mp (by lia);exact⟨[],.nil⟩
 |succ n j=>
  intro a b t g f e;cases a with
  |nil=>
   cases b with
   |nil=>exact⟨[],.nil⟩
   |cons y b=>
    cases y with
    |p c=>obtain⟨r,h⟩:=j [] b t (by simp at g ⊢;lia) f e;exact⟨_,.p rfl h⟩
    |k=>simp[aA,dA,bg]at e
    |d c=>simp[aA,dA,bg]at e
  |cons x a=>
   by_cases q:Hz (x :: a)=true
   .cases b with
    |nil=>
     cases x with
     |d c=>exists q
     |k=>cases t<;>simp[aA,dA,bg]at f e
     |p c=>simp[aA,dA,bg]at e
    |cons y b=>
     cases y with
     |p c=>obtain⟨r,h⟩:=j (x :: a) b t (by simp at g ⊢;lia) f e;exact⟨_,.p q h⟩
     |k=>
      cases x with
      |d c=>exists q
      |k=>
       cases t with
       |nil=>simp[aA,bg]at f
       |cons z t=>
        obtain⟨r,h⟩:=j a b t (by simp at g ⊢;lia) f e;exact⟨_,.kk h⟩
      |p c=>
       obtain⟨r,h⟩:=j a b t (by simp at g ⊢;lia) f e;exact⟨_,.pk h⟩
     |d A=>
      cases x with
      |d c=>exists q
      |k=>
       cases t with
       |nil=>simp[aA,bg]at f
       |cons z t=>
        simp[aA,bg,dA]at f e;obtain⟨r,h⟩:=j a b t (by simp at g ⊢;lia) f e.2;exact⟨_,.kd h⟩
      |p c=>
       simp[aA,bg,dA]at f e;obtain⟨rfl,e⟩:=e;obtain⟨r,h⟩:=j a b t (by simp at g ⊢;lia) f e;exact⟨_,.pd h⟩
   .cases x with
    |k=>exact absurd rfl q
    |p c=>exact absurd rfl q
    |d c=>
     cases t with
     |nil=>simp[aA,bg]at f
     |cons z t=>
      simp[aA,bg]at f;obtain⟨r,h⟩:=j a b t (by simp at g ⊢;lia) f.2 e;exact⟨_,.d h⟩
def Th.done(h:Th a b r):∀t,bg (aA a) t=true->dA r t=dA b (dA a t):=by
 induction h with
 |nil=>intro t _;rfl
 |d h e=>
  intro t c;cases t with
  |nil=>simp[aA,bg]at c
  |cons x t=>simp only[aA,bg,Bg]at c;exact e t c.2
 |p _ h e=>intro t c;simp only[dA];rw[e t c]
 |kk h e=>
  intro t c;cases t with
  |nil=>simp[aA,bg]at c
  |cons x t=>simp only[aA,bg,Bg]at c;simp[dA,e t c.2]
 |kd h e=>
  intro t c;cases t with
  |nil=>simp[aA,bg]at c
  |cons x t=>simp only[aA,bg,Bg]at c;simp[dA,e t c.2]
 |pk h e=>intro t c;simp[dA,e t c]
 |pd h e=>intro t c;simp[dA,e t c]
def Th.cost(h:Th a b r):cA r<=cA a+cA b:=by induction h<;>simp[cA]<;>lia
def Th.len(h:Th a b r):r.length<=a.length+b.length:=by induction h<;>simp<;>lia
theorem Th.ds:∀{s:Θ}{a:Kj},Th (s.map .d++a) b r->∃r',r=s.map .d++r'/\Th a b r'
 |[],a,h=>⟨r,rfl,h⟩
 |c :: s,a,h=>by
  cases h with
  |d h=>obtain⟨r',rfl,e⟩:=Th.ds h;exact⟨r',rfl,e⟩
  |p f h=>exists f
theorem Th.ps(hn:Hz a=true):∀{s:Θ}{b:Kj},Th a (s.map .p++b) r->∃r',r=s.map .p++r'/\Th a b r'
 |[],b,h=>⟨r,rfl,h⟩
 |c :: s,b,h=>by
  cases h with
  |d h=>cases hn
  |p _ h=>obtain⟨r',rfl,e⟩:=Th.ps hn h;exact⟨r',rfl,e⟩
def Th.kks:∀{n:Nat},Th (List.replicate n .k++a) (List.replicate n .k++b) r->∃r',r=List.replicate n .k++r'/\Th a b r':=λ{n}=>by
 induction n generalizing r with
 |zero=>intro h;exact⟨r,rfl,h⟩
 |succ n c=>intro h;cases h with|kk h=>obtain⟨r',rfl,d⟩:=c h;exact⟨r',rfl,d⟩
def Th.kds:∀{s:Θ},Th (List.replicate s.length .k++a) (s.map .d++b) r->∃r',r=s.map .d++r'/\Th a b r':=λ{s}=>by
 induction s generalizing r with
 |nil=>intro h;exact⟨r,rfl,h⟩
 |cons c s e=>intro h;cases h with|kd h=>obtain⟨r',rfl,f⟩:=e h;exact⟨r',rfl,f⟩
def Th.pks:∀{s:Θ},Th (s.map .p++a) (List.replicate s.length .k++b) r->∃r',r=s.map .p++r'/\Th a b r':=λ{s}=>by
 induction s generalizing r with
 |nil=>intro h;exact⟨r,rfl,h⟩
 |cons c s d=>intro h;cases h with|pk h=>obtain⟨r',rfl,e⟩:=d h;exact⟨r',rfl,e⟩
theorem Th.WN:∀{s s':Θ},s.length=s'.length->Th (s.map .p++a) (s'.map .d++b) r->s=s'/\Th a b r
 |[],[],_,h=>⟨rfl,h⟩
 |[],_ :: _,hl,_=>by simp at hl
 |_ :: _,[],hl,_=>by simp at hl
 |c :: s,c' :: s',hl,h=>by cases h with|pd h=>obtain⟨rfl,e⟩:=Th.WN (by simpa using hl) h;exact⟨rfl,e⟩
theorem j4:∀(a:Kj) (i q:Nat),Tq.at q∈tA i a↔∃j,q=i+j/\(aA a)[j]?=some []
 |[],i,q=>by simp[tA,aA]
 |.k :: a,i,q=>by
  simp only[tA,adD,j4 a,aA];constructor
  .rintro(h|⟨j,rfl,h⟩)
   .cases h;exact⟨0,rfl,by simp⟩
   .exact⟨j+1,by lia,by simpa using h⟩
  .rintro⟨j,rfl,h⟩;cases j with
   |zero=>exact .inl rfl
   |succ j=>exact .inr ⟨j,by lia,by simpa using h⟩
 |.d c :: a,i,q=>by
  simp only[tA,j4 a,aA];constructor
  .rintro⟨j,rfl,h⟩;exact⟨j+1,by lia,by simpa using h⟩
  .rintro⟨j,rfl,h⟩;cases j with
   |zero=>simp at h
   |succ j=>exact⟨j,by lia,by simpa using h⟩
 |.p c :: a,i,q=>by simp[tA,j4 a,aA]
theorem xR:∀{a:Γ}{t:Θ},bg a t=true->∀(j:Nat) x,a[j]?=some x->x=[]\/∃c,t[j]?=some c/\x=[c]
 |y :: a,c :: t,h,j,x,e=>by
  simp only[bg,Bg,abj,abc]at h;cases j with
  |zero=>simp at e;subst e;exact h.1.imp id λz=>⟨c,by simp,z⟩
  |succ j=>simpa using xR h.2 j x (by simpa using e)
 |[],[],_,j,x,e=>by simp at e
 |[],_ :: _,h,_,_,_=>by simp[bg]at h
 |_ :: _,[],h,_,_,_=>by simp[bg]at h
def HA{a:Kj}{A:Γ}{t:Θ}(I:bg (aA a) t=true)(Z:bg A t=true)(h:∀q:Nat,Tq.at q∈tA 0 a↔A[q]?=some []):aA a=A:=by
 have p:=uR I;have r:=uR Z;apply abv;intro j;by_cases z:j<t.length
 .obtain⟨x,hx⟩:∃x,(aA a)[j]?=some x:=⟨_,VW (by lia)⟩
  obtain⟨y,hy⟩:∃y,A[j]?=some y:=⟨_,VW (by lia)⟩
  have f:=j4 a 0 j;rw[h j,hy]at f;have b:x=[]↔y=[]:=by
   constructor
   .rintro rfl;have:=f.mpr ⟨j,by lia,hx⟩;cases this;rfl
   .rintro rfl;obtain⟨i,B,e⟩:=f.mp rfl;obtain rfl:i=j:=by lia
    rw[e]at hx;exists hx;rfl
  rw[hx,hy];rcases xR I j x hx with Cm|⟨c,k,Gx⟩
  .rw[Cm,b.mp Cm]
  .rcases xR Z j y hy with WO|⟨C,d,g⟩
   .rw[WO,b.mpr WO]
   .rw[k]at d;cases d;rw[Gx,g]
 .rw[aaO (by lia),aaO (by lia)]
def HC{a b:Kj}{t:Θ}(z:bg (aA a) t=true)(I:bg (aA b) t=true)(h:tA 0 a=tA 0 b):aA a=aA b:=
 HA z I λq=>by
  rw[h,j4 b 0 q];constructor
  .rintro⟨j,hj,e⟩;obtain rfl:q=j:=by lia
   exact e
  .intro e;exact⟨q,by lia,e⟩
def HD{a b:Kk}{t:Θ}(z:aS a t=true)(I:aS b t=true)(h:told 0 a=told 0 b):bf a=bf b:=by
 rw[uQ];rw[jg]at z I;have c:=h;rw[jh]at z I;rw[gc,gc]at c;have:=HC z I c;simp only[oz,h,jh,this]
def uT(h:aS c t=true):(aB c t).length=jB c:=by
 rw[iH (J2 c t h).1,TH]
abbrev A9(z:Nat)(Z:Nat)(I:Nat):Ss:=(.cons (.iff (.an (.v 2) (.cmp .eq (.ix (.ix (.v 2) (.neg (.c (.int 1)))) (.c (.int 0))) (.c (.str [100,114,111,112])))) (.cons (.exp (.me .append (.v 4) (.cons (.me .pop (.v 2) .nil) .nil))) .nil) (.cons (.iff (.an (.v 3) (.cmp .eq (.ix (.ix (.v 3) (.neg (.c (.int 1)))) (.c (.int 0))) (.c (.str [112,117,116])))) (.cons (.exp (.me .append (.v 4) (.cons (.me .pop (.v 3) .nil) .nil))) .nil) (.cons (.set 5 (.bi .min (.cons (.cl z (.cons (.ix (.v 2) (.neg (.c (.int 1)))) .nil)) (.cons (.cl z (.cons (.ix (.v 3) (.neg (.c (.int 1)))) .nil)) .nil)))) (.cons (.exp (.me .extend (.v 4) (.cons (.cl Z (.cons (.cl I (.cons (.v 2) (.cons (.v 5) .nil))) (.cons (.cl I (.cons (.v 3) (.cons (.v 5) .nil))) .nil))) .nil))) .nil))) .nil)) .nil)
abbrev lU(I:Nat)(Z:Nat)(z:Nat)(eO:Nat)(Ez:Nat)(tQ:Nat)(x:Nat:=0):Fn:=⟨2,6,(.cons (.iff (.cmp .ne (.cl I (.cons (.v 0) .nil)) (.cl Z (.cons (.v 1) .nil))) (.cons (.fP x) .nil) .nil) (.cons (.set 2 (.jx (.rev (.cl z (.cons (.v 0) .nil))))) (.cons (.set 3 (.jx (.rev (.cl z (.cons (.v 1) .nil))))) (.cons (.set 4 (.lst .nil)) (.cons (.qG (.orr (.v 2) (.v 3)) (A9 eO Ez tQ)) (.cons (.ret (.cl z (.cons (.kh (.v 4)) .nil))) .nil))))))⟩
abbrev tR(x:Nat:=0):Fn:=⟨2,2,(.cons (.iff (.cmp .eq (.ix (.v 1) (.c (.int 0))) (.c (.str [107,101,101,112]))) (.cons (.ret (.lst (.cons (.v 0) .nil))) .nil) .nil) (.cons (.iff (.cmp .eq (.ix (.v 0) (.c (.int 0))) (.c (.str [107,101,101,112]))) (.cons (.ret (.lst (.cons (.v 1) .nil))) .nil) .nil) (.cons (.iff (.cmp .ne (.ix (.v 0) (.c (.int 1))) (.ix (.v 1) (.c (.int 1)))) (.cons (.fP x) .nil) .nil) (.cons (.ret (.lst .nil)) .nil))))⟩
abbrev kX(z:Nat)(I:Nat):Fn:=⟨2,3,(.cons (.set 2 (.cl z (.cons (.me .pop (.v 0) .nil) (.cons (.v 1) .nil)))) (.cons (.iff (.cmp .gt (.cl I (.cons (.ix (.v 2) (.c (.int 1))) .nil)) (.c (.int 0))) (.cons (.exp (.me .append (.v 0) (.cons (.ix (.v 2) (.c (.int 1))) .nil))) .nil) .nil) (.cons (.ret (.ix (.v 2) (.c (.int 0)))) .nil)))⟩
abbrev ji:Fn:=⟨2,3,(.cons (.set 2 (.ix (.v 0) (.c (.int 0)))) (.cons (.iff (.cmp .eq (.v 2) (.c (.str [107,101,101,112]))) (.cons (.ret (.tup (.cons (.tup (.cons (.v 2) (.cons (.v 1) .nil))) (.cons (.tup (.cons (.v 2) (.cons (.bin .sub (.ix (.v 0) (.c (.int 1))) (.v 1)) .nil))) .nil)))) .nil) .nil) (.cons (.ret (.tup (.cons (.tup (.cons (.v 2) (.cons (.sl (.ix (.v 0) (.c (.int 1))) .no (.yes (.v 1))) .nil))) (.cons (.tup (.cons (.v 2) (.cons (.sl (.ix (.v 0) (.c (.int 1))) (.yes (.v 1)) .no) .nil))) .nil)))) .nil)))⟩
def Pt.tk(m:Nat):Pt->Pt
 |.keep _=>.keep m
 |.put s=>.put (s.take m)
 |.drop s=>.drop (s.take m)
def Pt.dp(m:Nat):Pt->Pt
 |.keep k=>.keep (k - m)
 |.put s=>.put (s.drop m)
 |.drop s=>.drop (s.drop m)
def zz{α:Type}(l:List α)(m:Nat):cut l none (some (m:Int))=l.take m:=by
 have a:¬ (m:Int)<0:=by lia
 simp only[cut,aY,a,acE,acv,abV,Nat.sub_zero];by_cases h:m<=l.length
 .rw[adl h]
 .rw[ada (by lia),abb (aaB _),abb (by lia)]
def Me{α:Type}(l:List α)(m:Nat):cut l (some (m:Int)) none=l.drop m:=by
 have a:¬ (m:Int)<0:=by lia
 simp only[cut,aY,a,acE,acv];by_cases h:m<=l.length
 .rw[adl h,abb (by simp)]
 .rw[ada (by lia),aby (aaB _),aby (by lia)];simp
section
variable{F:List Fn}{w n cI aC dD bF bX bQ dG cJ i:Nat}
def EA(I:F[i]?=some ji)(p:Pt)(m:Nat)(h:m<=p.n):run F w (n+1) i [.val p.v,.val (.int m)]=some (.tup [(p.tk m).v,(p.dp m).v],[]):=by
 refine bK I rfl ?_;cases p with
 |keep k=>
  refine ai (aK (by repeat array_get_dec) rfl rfl ?_);refine ai (aM (by repeat array_get_dec) (λ_=>?_) λh=>absurd h (by decide));refine ai (bJ (by repeat array_get_dec) ⟨?_,rfl⟩);have:k - m=((k - m:Nat):Int):=by simp only[Pt.n]at h;lia
  exact aaL (λz=>Fl.ret (V.tup [V.tup [V.str fM,V.int m],V.tup [V.str fM,V.int z]])) this
 |put s=>
  have a:fQ (.str s) none (some m)=some (.str (s.take m)):=by rw[jt,zz]
  have b:fQ (.str s) (some m) none=some (.str (s.drop m)):=by rw[jt,Me]
  refine ai (aK (by repeat array_get_dec) rfl rfl ?_);refine ai (aM (by repeat array_get_dec) (zS ·) λ_=>aD ?_);exact ai (bJ (by repeat array_get_dec) ⟨rfl,rfl⟩)
 |drop s=>
  have a:fQ (.str s) none (some m)=some (.str (s.take m)):=by rw[jt,zz]
  have b:fQ (.str s) (some m) none=some (.str (s.drop m)):=by rw[jt,Me]
  refine ai (aK (by repeat array_get_dec) rfl rfl ?_);refine ai (aM (by repeat array_get_dec) (zS ·) λ_=>aD ?_);exact ai (bJ (by repeat array_get_dec) ⟨rfl,rfl⟩)
def xS(m:Nat)(p:Pt):(p.dp m).n=p.n - m:=by cases p<;>simp[Pt.dp,Pt.n]
def yN(z:F[aC]?=some dj)(I:F[cI]?=some ji)(Z:F[i]?=some (kX cI aC))(L:T0)(p:Pt)(m:Nat)(h:m<=p.n)(hn:p.n<=100000)(hL:L.length<=10000):
  run F w (n+2) i [.bor (L++[p.v]),.val (.int m)]=some ((p.tk m).v,[L++if 0<p.n - m then [(p.dp m).v]else []]):=by
 refine bK Z rfl ?_;have b:=λfr=>call2 (fr:=fr) (EA (w:=w) (n:=n) I p m h);have c:=λfr=>ig (fr:=fr) (kU (w:=w) (n:=n) z (p.dp m) (by rw[xS];lia));have d:∀fr:Fr,jL .pop 0 [] fr (some (some (.bor (L++[p.v]))))=.ok p.v (fr.set 0 (some (.bor L))):=λfr=>Ol;have e:∀fr:Fr,jL .append 0 [(p.dp m).v] fr (some (some (.bor L)))=.ok .aN (fr.set 0 (some (.bor (L++[(p.dp m).v])))):=λfr=>Oj (by lia);refine ai (aK (by (repeat (first|array_get_dec|exact d _|exact b _))) rfl rfl ?_);refine ai (aM (by (repeat (first|array_get_dec|exact c _))) (λh=>?_) λh=>?_)
 .have a:=aa7 h;rw[xS]at a;rw[OL (by lia)];refine ai (eK (by (repeat (first|array_get_dec|exact e _))) (aD ?_));exact ai (bJ (by repeat array_get_dec) ⟨rfl,rfl⟩)
 .have a:=abA h;rw[xS]at a;rw[aaH (by lia),aaJ];exact aD (ai (bJ (by repeat array_get_dec) ⟨rfl,rfl⟩))
def qu:Pt->Pt->Option (Kk)
 |l,.keep _=>some [l]
 |.keep _,g=>some [g]
 |.put s,.drop s'=>if s=s' then some []else none
 |_,_=>none
def OH(z:F[i]?=some (tR x9))(p q:Pt)(r:Kk)(h:qu p q=some r):run F w (n+1) i [.val p.v,.val q.v]=some (.lst (r.map Pt.v),[]):=by
 refine bK z rfl ?_;cases q with
 |keep k=>
  simp only[qu,acs]at h;subst h;refine ai (aM (by repeat array_get_dec) (λ_=>?_) λh=>absurd h (by decide));exact ai (bJ (by repeat array_get_dec) ⟨rfl,rfl⟩)
 |put s=>
  cases p<;>simp[qu]at h
  subst h;refine ai (aM (by repeat array_get_dec) (zS ·) λ_=>aD ?_);refine ai (aM (by repeat array_get_dec) (λ_=>?_) λh=>absurd h (by decide));exact ai (bJ (by repeat array_get_dec) ⟨rfl,rfl⟩)
 |drop a=>
  cases p with
  |keep k=>
   simp only[qu,acs]at h;subst h;refine ai (aM (by repeat array_get_dec) (zS ·) λ_=>aD ?_);refine ai (aM (by repeat array_get_dec) (λ_=>?_) λh=>absurd h (by decide));exact ai (bJ (by repeat array_get_dec) ⟨rfl,rfl⟩)
  |drop s=>simp[qu]at h
  |put s=>
   simp only[qu]at h;split at h
   .rename_i b
    exists h
    refine ai (aM (by repeat array_get_dec) (zS ·) λ_=>aD ?_);refine ai (aM (by repeat array_get_dec) (zS ·) λ_=>aD ?_);refine ai (aM (by repeat array_get_dec) (λh=>?_) λ_=>aD ?_)
    .simp at h
    .exact ai (bJ (by repeat array_get_dec) ⟨rfl,rfl⟩)
   ·exists h
def kY:fy (.lst (l++[v])) (.int (-1))=some v:=by rw[NY,AN];simp
def oE:truthy (.lst (l++[v]))=true:=by simp
def Mf(e:fr[i]?=some (some (.own l)))(h:P f [.bor l,.val b]=some (v,[l'])):cz P f [.inl i,.inr b] fr=.ok v (fr.set i (some (.own l'))):=by
 have a:lent fr i=some (.bor l):=by rw[Oh,e];rfl
 simp[cz,bC,args,a,h,back,e,Sl.with]
def mW(h:sA c=true):∀p∈c,0<p.n:=λp a=>by
 simp only[sA,Bg,List.all_eq_true]at h;have:=h.2 p a;simp only[TF,bne_iff_ne,ne_eq]at this;lia
theorem kZ:∀{c:Kk},(∀p∈c,0<p.n)->c.length<=tot c
 |[],_=>by simp[tot]
 |p :: c,h=>by
  have b:=h p (by simp);have d:=kZ (c:=c) λq a=>h q (by simp[a]);rw[bL,aaI];lia
def EB{p:Pt}(h:m<=p.n):(p.tk m).aX++(p.dp m).aX=p.aX/\(p.tk m).n=m:=by
 cases p with
 |keep k=>simp only[Pt.n]at h;simp[Pt.tk,Pt.dp,Pt.aX,Pt.n,h]
 |put s=>simp only[Pt.n]at h;simp[Pt.tk,Pt.dp,Pt.aX,Pt.n,h,<-aaG]
 |drop s=>simp only[Pt.n]at h;simp[Pt.tk,Pt.dp,Pt.aX,Pt.n,h,<-aaG]
def oF(m:Nat)(p:Pt):Kk:=if 0<p.n - m then [p.dp m]else []
def CV(h:m<=p.n):p.aX=(p.tk m).aX++aX (oF m p):=by
 rw[<- (EB h).1]
 congr 1
 unfold oF;split
 .simp[aX]
 .rename_i hz;have:(p.dp m).aX.length=0:=by rw[A7,xS];lia
  rw[List.length_eq_zero_iff.mp this];rfl
def CW(m:Nat)(p:Pt):∀q∈oF m p,0<q.n:=λq a=>by
 unfold oF at a;split at a
 .simp at a;subst a;rw[xS];lia
 .simp at a
def OI(m:Nat)(p:Pt)(A:Kk):((oF m p++A).map Pt.v).reverse=(A.map Pt.v).reverse++if 0<p.n - m then [(p.dp m).v]else []:=by
 unfold oF;split<;>simp
def tS(m:Nat)(p:Pt):tot (oF m p)=p.n - m:=by
 unfold oF;split
 .simp[tot,xS]
 .simp[tot];lia
def CY:fY (p.tk m)=fY p/\gu (p.tk m)=gu p:=by cases p<;>exact⟨rfl,rfl⟩
def TL(p q:Pt)(I:fY p=false)(z:gu q=false)(hn:p.n=q.n)(h:Th (p.aX++A) (q.aX++B) r):∃m r',qu p q=some m/\m.length<=1/\r=aX m++r'/\Th A B r':=by
 cases p with
 |drop s=>exists I
 |keep k=>
  cases q with
  |put s=>exists z
  |keep b=>subst hn;obtain⟨r',rfl,a⟩:=Th.kks h;exact⟨[.keep k],r',rfl,by simp,by simp[aX,Pt.aX],a⟩
  |drop s=>subst hn;obtain⟨r',rfl,a⟩:=Th.kds h;exact⟨[.drop s],r',rfl,by simp,by simp[aX,Pt.aX],a⟩
 |put s=>
  cases q with
  |put c=>exists z
  |keep b=>subst hn;obtain⟨r',rfl,a⟩:=Th.pks h;exact⟨[.put s],r',rfl,by simp,by simp[aX,Pt.aX],a⟩
  |drop c=>obtain⟨rfl,a⟩:=Th.WN hn h;exact⟨[],r,by simp[qu],by simp,by simp[aX],a⟩
structure Tn(one other c:Kk)(t:Θ):Prop where
 BR:bf c=c
 fit:aS c t=true
 dn:aB c t=aB other (aB one t)
 TM:told 0 c=(told 0 other).map (sub (told 0 one))
 bck:told 0 (sw c)=(told 0 (sw one)).map (sub (told 0 (sw other)))
 cs:cst c<=cst one+cst other
 tt:tot c<=tot one+tot other
 ln:c.length<=tot c
 th:∃ps,c=bf ps/\Th (aX (bf one)) (aX (bf other)) (aX ps)
def VV(h1:aS one t=true)(h2:aS other (aB one t)=true)(h:Th (aX (bf one)) (aX (bf other)) (aX ps)):Tn one other (bf ps) t:=by
 have f1:bg (aA (aX (bf one))) t=true:=by rw[<-jh,jf,<-jg];exact h1
 have f2:bg (aA (aX (bf other))) (dA (aX (bf one)) t)=true:=by rw[<-jh,jf,<-gz,j3,<-jg];exact h2
 have b:=h.back 0 0 [] rfl;rw[<-A8,<-A8,<-A8,<-gc,<-gc,<-gc]at b;have a:=λc i=>by
  have:=aaL (told i) (OE (oB c));rwa [fR,fR]at this
 refine⟨oB _,?_,?_,?_,?_,?_,?_,kZ (mW (kW _)),ps,rfl,h⟩
 .rw[A4,jg,jh];exact h.fit t f1 f2
 .rw[j3,gz,h.done t f1,<-gz,j3,<-gz,j3]
 .have:=h.told 0 0 [] rfl;rw[<-gc,<-gc,<-gc,fR,fR]at this;rw[fR];exact this
 .rw[a,<-a one,<-a other];exact b
 .have:=h.cost;rw[<-tP,<-tP,<-tP,uP,uP]at this;rw[uP];exact this
 .have:=h.len;rw[mV,mV,mV,jV,jV]at this;rw[jV];exact this
section
variable{x9:Nat}(hs:F[aC]?=some dj)(hp:F[cI]?=some ji)(ht:F[bF]?=some (kX cI aC))(hm:F[dD]?=some (tR x9)){one other:Kk}{r:Kj}{N:Nat}(hN:N<=5000)
def iL(one other A B C:Kk)(a:T2):Fr:=[some (.val (aT one)),some (.val (aT other)),some (.own (A.map Pt.v).reverse),some (.own (B.map Pt.v).reverse),some (.own (C.map Pt.v)),a]
inductive TN(one other:Kk)(r:Kj)(N k:Nat)(fr:Fr):Prop
 |mk (A B C:Kk) (r':Kj) (a:T2) (c0:Th (aX A) (aX B) r') (c1:aX C++r'=r) (c2:∀p∈A,0<p.n) (c3:∀p∈B,0<p.n) (c4:C.length+k<=N) (c5:k=tot A+tot B) (c6:vo a) (c7:fr=iL one other A B C a):TN one other r N k fr
include hs hp ht hm hN
def HF(aC dD bF:Nat):Ss:=(.cons (.set 5 (.bi .min (.cons (.cl aC (.cons (.ix (.v 2) (.neg (.c (.int 1)))) .nil)) (.cons (.cl aC (.cons (.ix (.v 3) (.neg (.c (.int 1)))) .nil)) .nil)))) (.cons (.exp (.me .extend (.v 4) (.cons (.cl dD (.cons (.cl bF (.cons (.v 2) (.cons (.v 5) .nil))) (.cons (.cl bF (.cons (.v 3) (.cons (.v 5) .nil))) .nil))) .nil))) .nil))
def Ba(aC dD bF:Nat):Ss:=.cons (.iff (.an (.v 3) (.cmp .eq (.ix (.ix (.v 3) (.neg (.c (.int 1)))) (.c (.int 0))) (.c (.str [112,117,116])))) (.cons (.exp (.me .append (.v 4) (.cons (.me .pop (.v 3) .nil) .nil))) .nil) (HF aC dD bF)) .nil
def Bb(one other:Kk)(r:Kj)(N t:Nat)(g:Fl)(fr:Fr):Prop:=g=.nx/\∃j,j<t/\TN one other r N j fr
omit hs hp ht hm hN in
theorem HG{C:Kk}(z:C.length<=5000)(d:Pt)(fr:Fr):jL .append 4 [d.v] fr (some (some (.own (C.map Pt.v))))=.ok .aN (fr.set 4 (some (.own ((C++[d]).map Pt.v)))):=by
 rw[aaG];exact tM (by simp;omega)
omit hs hp ht hm in
theorem Bc(A B C:Kk)(s:Θ)(r':Kj)(a:T2)(h:Th (aX A) (aX (.put s :: B)) r')(hn:Hz (aX A)=true)(I:aX C++r'=r)(Z:∀p∈A,0<p.n)(z:∀p∈(.put s :: B),0<p.n)(hk:C.length+(tot A+tot (.put s :: B))<=N)(ha:vo a):
  Wp (exs (run F w (n+2)) w (Ba aC dD bF) (iL one other A (.put s :: B) C a)) (Bb one other r N (tot A+tot (.put s :: B))):=by
 have b:C.length<=5000:=by omega
 rw[gb]at h;obtain⟨c,d,e⟩:=Th.ps hn h;have f:=z (.put s) (by simp);unfold iL;rw[aaD,aaT];refine ai (aM (jd (aF rfl (au rfl) oE) (by (repeat (first|array_get_dec|exact kY)))) (λ_=>?_) λh=>absurd h (by decide));refine ai (eK (by (repeat (first|array_get_dec|exact xJ|exact HG b _ _))) (aD (aD ?_)));refine⟨rfl,tot A+tot B,by rw[bL];omega,A,B,C++[.put s],c,a,e,?_,Z,λx g=>z x (by simp[g]),?_,rfl,ha,rfl⟩
 .rw[<-I,d,mU];simp[aX,Pt.aX]
 .rw[bL]at hk;simp;omega
omit hN in
theorem TQ(A B C mm:Kk)(p q:Pt)(m:Nat)(a:T2)(mn:cZ .min [.int p.n,.int q.n]=some (.int m))(z:m<=p.n)(I:m<=q.n)(lp:p.n<=5000)(lq:q.n<=5000)(lA:A.length<=5000)(lB:B.length<=5000)(lC:C.length+mm.length<=10000)(e1:qu (p.tk m) (q.tk m)=some mm)(ha:vo a)(Q:Fl->Fr->Prop)(Z:Q .nx (iL one other (oF m p++A) (oF m q++B) (C++mm) (some (.val (.int m))))):Wp (exs (run F w (n+2)) w (HF aC dD bF) (iL one other (p :: A) (q :: B) C a)) Q:=by
 have d:=λfr=>ig (fr:=fr) (kU (F:=F) (w:=w) (n:=n+1) hs p (aaN lp (by decide)));have e:=λfr=>ig (fr:=fr) (kU (F:=F) (w:=w) (n:=n+1) hs q (aaN lq (by decide)));have b:=yN (F:=F) (w:=w) (n:=n) hs hp ht (A.map Pt.v).reverse p m z (by omega) (by simp;omega);have c:=yN (F:=F) (w:=w) (n:=n) hs hp ht (B.map Pt.v).reverse q m I (by omega) (by simp;omega);rw[<-OI]at b c;have f:=λfr=>call2 (fr:=fr) (OH (F:=F) (w:=w) (n:=n+1) hm _ _ mm e1);have ex:∀fr:Fr,jL .extend 4 [.lst (mm.map Pt.v)] fr (some (some (.own (C.map Pt.v))))=.ok .aN (fr.set 4 (some (.own ((C++mm).map Pt.v)))):=λfr=>by
  rw[aaG];exact mS (by simp;omega)
 unfold iL at Z ⊢;rw[aaD,aaT,aaD,aaT];refine ai (aK (by (repeat (first|array_get_dec|exact kY|exact d _|exact e _))) rfl (bZ rfl ha) ?_);exact ai (eK (by (repeat (first|array_get_dec|exact Mf rfl b|exact Mf rfl c|exact f _|exact ex _))) (aD Z))
theorem J6(A B C:Kk)(p q:Pt)(r':Kj)(a:T2)(hd:fY p=false)(hq:gu q=false)(h:Th (aX (p :: A)) (aX (q :: B)) r')(hC:aX C++r'=r)(Z:∀x∈p :: A,0<x.n)(hB:∀x∈q :: B,0<x.n)(hk:C.length+(tot (p :: A)+tot (q :: B))<=N)(ha:vo a):
  Wp (exs (run F w (n+2)) w (Ba aC dD bF) (iL one other (p :: A) (q :: B) C a)) (Bb one other r N (tot (p :: A)+tot (q :: B))):=by
 have f:=Z p (by simp);have g:=hB q (by simp);obtain⟨m,hm1,hm2,hm3⟩:∃m:Nat,m<=p.n/\m<=q.n/\(m=p.n\/m=q.n):=⟨min p.n q.n,by lia,by lia,by lia⟩
 have j:cZ .min [.int p.n,.int q.n]=some (.int m):=by
  rw[AH];split
  .congr 2;lia
  .congr 2;lia
 rw[bL,bL]at hk;have J:=kZ (c:=A) λx b=>Z x (by simp[b]);have K:=kZ (c:=B) λx b=>hB x (by simp[b]);have y:Th ((p.tk m).aX++aX (oF m p++A)) ((q.tk m).aX++aX (oF m q++B)) r':=by
  rw[mU,mU,<-aaX,<-aaX,<-CV hm1,<-CV hm2,<-gb,<-gb];exact h
 obtain⟨e,z,G,L,H,I⟩:=TL (p.tk m) (q.tk m) (by rw[CY.1];exact hd) (by rw[CY.2];exact hq) (by rw[(EB hm1).2,(EB hm2).2]) y;have fin:Bb one other r N (tot (p :: A)+tot (q :: B)) .nx (iL one other (oF m p++A) (oF m q++B) (C++e) (some (.val (.int m)))):=by
  refine⟨rfl,_,?_,_,_,_,z,_,I,?_,?_,?_,?_,rfl,.val,rfl⟩
  .rw[eU,eU,tS,tS,bL,bL];lia
  .rw[mU,aaX,<-H];exact hC
  .intro x b;rcases k8 b with b|b
   .exact CW m p x b
   .exact Z x (aaM _ b)
  .intro x b;rcases k8 b with b|b
   .exact CW m q x b
   .exact hB x (aaM _ b)
  .rw[eU,eU,tS,tS,aaE];lia
 have d:=TQ (one:=one) (other:=other) (w:=w) (n:=n) hs hp ht hm A B C e p q m a j hm1 hm2 (by lia) (by lia) (by lia) (by lia) (by lia) G ha _ (show nx (run F w (n+2)) w .nil (Bb one other r N (tot (p :: A)+tot (q :: B))) .nx _ from aD fin);unfold iL at d ⊢;rw[aaD,aaT,aaD,aaT]at d ⊢;cases q with
 |put s=>exists hq
 |keep k=>exact ai (aM (jd (aF rfl (au rfl) oE) (by (repeat (first|array_get_dec|exact kY)))) (zS ·) λ_=>d)
 |drop s=>exact ai (aM (jd (aF rfl (au rfl) oE) (by (repeat (first|array_get_dec|exact kY)))) (zS ·) λ_=>d)
omit hs hp ht hm hN in
theorem WQ{b r:Kj}{x:At}(h:Th [] (x :: b) r):∃c,x=.p c:=by cases h with|p=>exact⟨_,rfl⟩
omit hs hp ht hm hN in
theorem WR{a r:Kj}{x:At}(h:Th (x :: a) [] r):∃c,x=.d c:=by cases h with|d=>exact⟨_,rfl⟩
theorem HH(A B C:Kk)(r':Kj)(a:T2)(hne:A≠[]\/B≠[])(h:Th (aX A) (aX B) r')(hC:aX C++r'=r)(Z:∀p∈A,0<p.n)(hB:∀p∈B,0<p.n)(hk:C.length+(tot A+tot B)<=N)(ha:vo a):
  Wp (exs (run F w (n+2)) w (A9 aC dD bF) (iL one other A B C a)) (Bb one other r N (tot A+tot B)):=by
 cases A with
 |nil=>
  cases B with
  |nil=>exact absurd hne (by simp)
  |cons q B'=>
   refine ai (aM (r8 (aF rfl (au rfl) rfl)) (zS ·) λ_=>?_);have d:=hB q (by simp);cases q with
   |put s=>exact(Bc hN [] B' C s r' a h rfl hC Z hB hk ha).mono λg G ⟨y,j⟩=>by subst y;exact aD ⟨rfl,j⟩
   |keep k=>
    cases k with
    |zero=>exact absurd d (aa6 0)
    |succ k=>obtain⟨c,e⟩:=WQ h;exists e
   |drop s=>
    cases s with
    |nil=>exact absurd d (aa6 0)
    |cons c s=>obtain⟨c,e⟩:=WQ h;exists e
 |cons p A'=>
  have b:=Z p (by simp);cases hd:fY p with
  |true=>
   cases p with
   |keep k=>exists hd
   |put s=>exists hd
   |drop s=>
    have H:C.length<=5000:=by lia
    obtain⟨I,J,K⟩:=Th.ds h;unfold iL;rw[aaD,aaT];refine ai (aM (jd (aF rfl (au rfl) oE) (by (repeat (first|array_get_dec|exact kY)))) (λ_=>?_) λh=>absurd h (by decide));refine ai (eK (by (repeat (first|array_get_dec|exact xJ|exact HG H _ _))) (aD (aD ?_)));refine⟨rfl,tot A'+tot B,by rw[bL];lia,A',B,C++[.drop s],I,a,K,?_,λx j=>Z x (by simp[j]),hB,?_,rfl,ha,rfl⟩
    .rw[<-hC,J,mU];simp[aX,Pt.aX]
    .rw[bL]at hk;simp;lia
  |false=>
   have f:Wp (exs (run F w (n+2)) w (Ba aC dD bF) (iL one other (p :: A') B C a)) (Bb one other r N (tot (p :: A')+tot B)):=by
    cases B with
    |nil=>
     exfalso;rw[gb]at h;cases p with
     |drop s=>exists hd
     |keep k=>cases k with|zero=>exact absurd b (aa6 0)|succ k=>obtain⟨c,e⟩:=WR (x:=.k) h;exists e
     |put s=>cases s with|nil=>exact absurd b (aa6 0)|cons c s=>obtain⟨c,e⟩:=WR (x:=.p c) h;exists e
    |cons q B'=>
     cases d:gu q with
     |true=>
      have z:Hz (aX (p :: A'))=true:=by
       rw[gb];cases p with
       |drop s=>exists hd
       |keep k=>cases k<;>first|exact absurd b (aa6 0)|rfl
       |put s=>cases s<;>first|exact absurd b (aa6 0)|rfl
      cases q with
      |keep k=>exists d
      |drop s=>exists d
      |put s=>exact Bc hN (p :: A') B' C s r' a h z hC Z hB hk ha
     |false=>exact J6 hs hp ht hm hN A' B' C p q r' a hd d h hC Z hB hk ha
   replace f:=f.mono (Q':=nx (run F w (n+2)) w .nil (Bb one other r N (tot (p :: A')+tot B))) λg G ⟨y,j⟩=>by subst y;exact aD ⟨rfl,j⟩
   unfold iL at f ⊢;rw[aaD,aaT]at f ⊢;cases p with
   |drop s=>exists hd
   |keep k=>exact ai (aM (jd (aF rfl (au rfl) oE) (by (repeat (first|array_get_dec|exact kY)))) (zS ·) λ_=>f)
   |put s=>exact ai (aM (jd (aF rfl (au rfl) oE) (by (repeat (first|array_get_dec|exact kY)))) (zS ·) λ_=>f)
omit hN in
theorem J7(hst:F[bQ]?=some gY)(hf:F[bX]?=some (nL bQ))(hb:F[cJ]?=some (kT aC))(ha:F[dG]?=some (mT aC))(Bd:F[i]?=some (lU dG cJ bX aC dD bF x9))(hw:5000<w)(one other:Kk)(t:Θ)(h1:aS one t=true)(h2:aS other (aB one t)=true)(b1:tot one<=2000)(b2:tot other<=2000)(l1:one.length<=2000)(l2:other.length<=2000):
  ∃c,run F w (n+3) i [.val (aT one),.val (aT other)]=some (aT c,[])/\Tn one other c t:=by
 have f1:bg (aA (aX (bf one))) t=true:=by rw[<-jh,jf,<-jg];exact h1
 have f2:bg (aA (aX (bf other))) (dA (aX (bf one)) t)=true:=by rw[<-jh,jf,<-gz,j3,<-jg];exact h2
 obtain⟨r,d⟩:=Th.all _ _ _ t (aaB _) f1 f2;have H:jB one=aE other:=by rw[<-uT h1,iH h2]
 have ne:cop .ne (.int (jB one)) (.int (aE other))=some false:=by rw[Em,H];simp
 have I:=λfr=>ig (fr:=fr) (Hf (F:=F) (w:=w) (n:=n) hs ha one (by omega) (by omega));have J:=λfr=>ig (fr:=fr) (Er (F:=F) (w:=w) (n:=n) hs hb other (by omega) (by omega));have K:=λfr=>ig (fr:=fr) (qp (F:=F) (w:=w) (n:=n) hst hf one (by omega) (by omega));have L:=λfr=>ig (fr:=fr) (qp (F:=F) (w:=w) (n:=n) hst hf other (by omega) (by omega));have t1:=jV one;have t2:=jV other;have g1:=kZ (mW (kW one));have g2:=kZ (mW (kW other));have M:eV ((bf one).map Pt.v).reverse=some (.lst ((bf one).map Pt.v).reverse):=cW (bE (by simp;omega));have P:eV ((bf other).map Pt.v).reverse=some (.lst ((bf other).map Pt.v).reverse):=cW (bE (by simp;omega));have f:Wp (exs (run F w (n+2)) w (lU dG cJ bX aC dD bF x9).body (cX (lU dG cJ bX aC dD bF x9) [.val (aT one),.val (aT other)])) λg fr=>∃ps,aX ps=r/\g=.ret (aT (bf ps))/\outs 2 fr=[]:=by
  refine ai (aM (by (repeat (first|array_get_dec|exact I _|exact J _))) (zS ·) λ_=>aD ?_);refine ai (gQ (l:=((bf one).map Pt.v).reverse) (zv (G5 (cR (aR rfl (au rfl) aO) (K _)) rfl) M) rfl rfl ?_);refine ai (gQ (l:=((bf other).map Pt.v).reverse) (zv (G5 (cR (aR rfl (au rfl) aO) (L _)) rfl) P) rfl rfl ?_);refine ai (gQ (l:=[]) (by repeat array_get_dec) rfl rfl ?_);refine ai (VM (AJ (TN one other r (tot one+tot other)) (λk fr Q=>?_) w (tot one+tot other) _ (by omega) ⟨bf one,bf other,[],r,none,d,rfl,mW (kW one),mW (kW other),by simp,by omega,.none,rfl⟩));obtain⟨A,B,C,W,a,G,j,X,Y,hk,x,WS,rfl⟩:=Q;by_cases b:A≠[]\/B≠[]
  .have y:bB (run F w (n+2)) (.orr (.v 2) (.v 3)) (iL one other A B C a)=.ok true (iL one other A B C a):=by
    cases A with
    |cons p A=>unfold iL;rw[aaD,aaT];exact AO (aF rfl (au rfl) oE)
    |nil=>
     cases B with
     |nil=>simp at b
     |cons q B=>unfold iL;rw[aaD,aaT];exact nK (aF rfl (au rfl) rfl) (aF rfl (au rfl) oE)
   refine⟨true,_,y,?_⟩;dsimp only;rw[OL rfl];refine(HH hs hp ht hm (N:=tot one+tot other) (by omega) A B C W a b G j X Y (by omega) WS).mono λg fr ⟨Z,hx⟩=>?_;subst Z x;exact hx
  .obtain⟨rfl,rfl⟩:A=[]/\B=[]:=by simpa using b
   refine⟨false,_,nK (aF rfl (au rfl) rfl) (aF rfl (au rfl) rfl),?_⟩;dsimp only;rw[aaH (by decide)];cases G;rw[aaJ]at j;subst j;have lC:=d.len;rw[mV,mV,mV]at lC;have mt:toT (.lst (C.map Pt.v))=some (aT C):=by rw[CJ];exact nJ (bE (by simp;omega))
   have c5:=λfr=>ig (fr:=fr) (qp (F:=F) (w:=w) (n:=n) hst hf C (by omega) (by omega));have sh:fK (iL one other [] [] C a)=[some (.val (aT one)),some (.val (aT other)),some (.val (.lst [])),some (.val (.lst [])),some (.val (.lst (C.map Pt.v))),a]:=by
    show _ :: _ :: _ :: _ :: _ :: [a.map Sl.dz]=_;rw[dF WS];rfl
   refine ai (bJ (v:=aT (bf C)) (af:=[some (.val (aT one)),some (.val (aT other)),some (.val (.lst [])),some (.val (.lst [])),some (.val (.lst (C.map Pt.v))),a]) ?_ ⟨C,rfl,rfl,rfl⟩);rw[sh];exact cR (aR rfl (zw (au rfl) mt) aO) (c5 _)
 obtain⟨g,fr,e,ps,z,rfl,ho⟩:=f;refine⟨bf ps,?_,VV h1 h2 (z▸d)⟩;rw[run_eq Bd rfl,e];simp only[N4];rw[show outs (lU dG cJ bX aC dD bF x9).np fr=[]from ho]
end
end
section
variable{F:List Fn}{w n i:Nat}
def J8(Z:F[i]?=some Hv)(c:Kk)(t:Θ)(h1:tot c<=10000)(h2:t.length<=10000)(h:aS c t=true):run F w (n+1) i [.val (aT c),.val (.str t)]=some (.str (aB c t),[]):=by
 refine bK Z rfl ?_;refine ai (aK (by repeat array_get_dec) rfl rfl ?_);refine ai (aK (by repeat array_get_dec) rfl rfl ?_);refine ai (kC (ef (er rfl) rfl) ?_);have P:=nP c t;refine gn (λp l A=>p++l=c/\aE p<=t.length/\aS l (t.drop (aE p))=true/\∃f a b,f++aB l (t.drop (aE p))=aB c t/\vo a/\vo b/\A=[some (.val (aT c)),some (.val (.str t)),some (.val (.int (aE p))),some (.val (.str f)),a,b]) (λp x l A ⟨e,WT,d,f,a,b,q,r,y,j⟩=>?_) (λp A ⟨e,WT,d,f,a,b,q,r,y,j⟩=>?_) c [] _ ⟨rfl,by simp[aE,tot],by simpa[aE,tot]using h,[],none,none,by simp[aE,tot],.none,.none,rfl⟩
 .subst j;have B:(p++[x])++l=c:=by simpa using e
  have I:=aaL List.length q;cases x with
  |put s=>
   have g:aE (p++[.put s])=aE p:=by rw[iG,mL];simp[aE,tot]
   have J:=qg (a:=f) (b:=s) (by simp[aB]at I;lia);refine di (ir rfl r rfl y) (ai (aM (by repeat array_get_dec) (λ_=>?_) λh=>absurd h (by decide)));refine ai (aK (by repeat array_get_dec) rfl rfl (aD (aD ?_)));rw[dZ,g];exact⟨B,WT,d,f++s,_,_,by simpa[aB]using q,.val,.val,rfl⟩
  |drop s=>
   simp only[aS,Bg]at d;have g:aE (p++[.drop s])=aE p+s.length:=by rw[iG,oA];simp[aE,tot]
   have C:((aE (p++[.drop s]):Nat):Int)=(aE p:Int)+(s.length:Nat):=by rw[g];simp
   have z:=d.1;rw[pre_take]at z;have z:=aa7 z;have K:s.length<=(t.drop (aE p)).length:=by have:=aaL List.length z;simp at this ⊢;lia
   have G:aE p+s.length<=t.length:=by simp at K;lia
   have L:cZ .len [.str s]=some (.int (s.length:Nat)):=abI (by lia);have M:fQ (.str t) (some (aE p:Int)) (some ((aE p:Int)+(s.length:Nat)))=some (.str s):=by rw[jt,lT,z]
   refine di (ir rfl r rfl y) (ai (aM (by repeat array_get_dec) (zS ·) λ_=>?_));refine ai (aM (by repeat array_get_dec) (λ_=>?_) λh=>absurd h (by decide));refine ai (aM (by repeat array_get_dec) (λh=>?_) λ_=>aD ?_)
   .simp at h
   .refine ai (aK (by repeat array_get_dec) rfl rfl (aD (aD (aD ?_))));rw[dZ];refine⟨B,by lia,?_,f,_,_,?_,.val,.val,by rw[C];rfl⟩
    .rw[g,<-aa9];exact d.2
    .rw[g,<-aa9];simpa[aB]using q
  |keep k=>
   simp only[aS,Bg,abc]at d;have g:aE (p++[.keep k])=aE p+k:=by rw[iG,mK];simp[aE,tot]
   have C:((aE (p++[.keep k]):Nat):Int)=(aE p:Int)+(k:Nat):=by rw[g];simp
   have G:aE p+k<=t.length:=by have:=d.1;simp at this;lia
   have M:fQ (.str t) (some (aE p:Int)) (some ((aE p:Int)+(k:Nat)))=some (.str ((t.drop (aE p)).take k)):=by rw[jt,lT]
   have J:=qg (a:=f) (b:=(t.drop (aE p)).take k) (by simp[aB]at I ⊢;lia);refine di (ir rfl r rfl y) (ai (aM (by repeat array_get_dec) (zS ·) λ_=>?_));refine ai (aM (by repeat array_get_dec) (zS ·) λ_=>?_);refine ai (aK (by repeat array_get_dec) rfl rfl ?_);refine ai (aK (by repeat array_get_dec) rfl rfl (aD (aD (aD ?_))));rw[dZ];refine⟨B,by lia,?_,f++(t.drop (aE p)).take k,_,_,?_,.val,.val,by rw[C];rfl⟩
   .rw[g,<-aa9];exact d.2
   .rw[g,<-aa9];simpa[aB]using q
 .subst j;simp at e;subst e;have H:f=aB p t:=by simpa[aB]using q
  subst H;have N:=iH h;have L:cZ .len [.str t]=some (.int (t.length:Nat)):=abI (by lia);have Q:cop .eq (.int (aE p)) (.int (t.length:Nat))=some true:=by rw[jG,N];simp
  have sh:fK [some (.val (aT p)),some (.val (.str t)),some (.val (.int (aE p))),some (.val (.str (aB p t))),a,b]=[some (.val (aT p)),some (.val (.str t)),some (.val (.int (aE p))),some (.val (.str (aB p t))),a,b]:=by
   show _ :: _ :: _ :: _ :: a.map Sl.dz :: [b.map Sl.dz]=_;rw[dF r,dF y];rfl
  refine ai (bJ (v:=.str (aB p t)) (af:=[some (.val (aT p)),some (.val (.str t)),some (.val (.int (aE p))),some (.val (.str (aB p t))),a,b]) ?_ ⟨rfl,rfl⟩);rw[sh];exact fC (b:=true) (aF rfl (by repeat array_get_dec) rfl) (λ_=>au rfl) λh=>absurd h (by decide)
def Ch:List Nat->List (Kk)->Prop
 |_,[]=>True
 |t,c :: rs=>aS c t=true/\Ch (aB c t) rs
def dN(t:Θ)(rs:List (Kk)):Θ:=rs.foldl (λs c=>aB c s) t
def dW(rs:List (Kk)):Nat:=(rs.map tot).sum
def OJ(t:Θ)(p q:List (Kk)):dN t (p++q)=dN (dN t p) q:=by simp[dN]
theorem Be{t:Θ}:∀{p q:List (Kk)},Ch t (p++q)↔Ch t p/\Ch (dN t p) q
 |[],q=>⟨λh=>⟨trivial,h⟩,λh=>h.2⟩
 |c :: p,q=>by
  show(aS c t=true/\Ch (aB c t) (p++q))↔(aS c t=true/\Ch (aB c t) p)/\Ch (dN (aB c t) p) q;rw[Be,and_assoc]
def ZI{a b:Kk}{t:Θ}(z:bf a=a)(I:bf b=b)(Z:aS a t=true)(hb:aS b t=true)(h:told 0 a=told 0 b):a=b:=by rw[<-z,<-I];exact HD Z hb h
end
inductive Hd(L:T0):Sl->List (T0)->Prop
 |val:Hd L (.val (.lst L)) []
 |bor:Hd L (.bor L) [L]
theorem wk:∀(a b:Kj) (t:Θ),dA (a++b) t=dA a (t.take (aA a).length)++dA b (t.drop (aA a).length)
 |[],b,t=>by simp[dA,aA]
 |.k :: a,b,t=>by
  simp only[aaW,dA,aA,aaI,wk a b];cases t with
  |nil=>simp
  |cons c t=>simp
 |.d c :: a,b,t=>by
  simp only[aaW,dA,aA,aaI,wk a b];cases t with
  |nil=>simp
  |cons c t=>simp
 |.p c :: a,b,t=>by simp only[aaW,dA,aA,wk a b]
section
variable{c:Kk}
def Bf(c:Kk):aE c=(aA (aX c)).length:=by rw[<-jh,uO]
end
def VX(n i:Nat):tA i (List.replicate n .k)=(List.range n).map λj=>Tq.at (i+j):=by
 have:=gc [.keep n] i;simp only[aX,Pt.aX,List.flatMap_cons,List.flatMap_nil,aaJ]at this;rw[<-this];simp[told,Pt.told]
abbrev Row:=Θ×Kk
def aZ(r:Row):V:=.tup [.str r.1,aT r.2]
def bM(rs:List Row):List (Kk):=rs.map Prod.snd
def xT(a b:List Row):bM (a++b)=bM a++bM b:=aaG
def who(st:T0)(o:Θ):Tq->V
 |.at i=>st.getD i .aN
 |.sg _=>.str o
def qO(st:T0)(r:Row):T0:=(told 0 r.2).map (who st r.1)
def ows(st:T0)(rs:List Row):T0:=rs.foldl qO st
def OM(st:T0)(a b:List Row):ows st (a++b)=ows (ows st a) b:=by simp[ows]
def ON(st:T0)(r:Row):(qO st r).length=jB r.2:=by simp[qO,qt]
def OO{c:Kk}{i:Nat}(h:Tq.at i∈told 0 c):i<aE c:=by
 rw[gc]at h;obtain⟨j,rfl,a⟩:=(j4 (aX c) 0 i).mp h;have:=(gL a).1;rw[<-Bf]at this;lia
def OP{a c X:Kk}{st:T0}{o:Θ}(h:aE c=jB a)(z:told 0 X=(told 0 c).map (sub (told 0 a))):qO st (o,X)=qO (qO st (o,a)) (o,c):=by
 unfold qO;rw[z,acG];refine List.map_congr_left λx e=>?_;cases x with
 |sg d=>rfl
 |«at» i=>
  have b:=OO e;rw[h,<-qt a 0]at b;simp[Function.comp,sub,who,List.getD,VW b]
theorem Mh:∀{a:Kj},cA a=0->a=List.replicate (aA a).length .k
 |[],_=>rfl
 |.k :: a,h=>by
  simp only[aA,aaI,aaK];rw[<-Mh (a:=a) (by simpa[cA]using h)]
 |.d c :: a,h=>by simp[cA]at h
 |.p c :: a,h=>by simp[cA]at h
def Mi{c:Kk}(h:cst c=0):aX c=List.replicate (aE c) .k:=by
 rw[Bf];exact Mh (by rw[<-tP];exact h)
def TR{Y:Kk}{u:Θ}(h:aX Y=List.replicate u.length .k):aB Y u=u:=by
 rw[gz,h];have:aB [.keep u.length] u=u:=by simp[aB]
 rw[gz]at this;simpa[aX,Pt.aX]using this
def EC{c:Kk}{t:Θ}(h:cst c=0)(f:aS c t=true):aB c t=t:=TR (by rw[Mi h,iH f])
def HJ{c:Kk}{st:T0}{o:Θ}(h:cst c=0)(z:st.length=aE c):qO st (o,c)=st:=by
 unfold qO;rw[gc,Mi h,VX,acG];apply abv;intro i;by_cases a:i<st.length
 .rw[aaU,abM (by lia)];simp[who,List.getD,VW a]
 .rw[aaO (by simp;lia),aaO (by lia)]
open Classical in
def bx(t:Θ)(a c:Kk):Kk:=if h:∃X,Tn a c X t then h.choose else []
def TU{t:Θ}{a c X:Kk}(T:Tn a c X t):bx t a c=X:=by
 have h:∃X,Tn a c X t:=⟨X,T⟩
 unfold bx;rw[dif_pos h];have S:=h.choose_spec;exact ZI S.BR T.BR S.fit T.fit (S.TM.trans T.TM.symm)
def nQ(K:List Row)(r:Row)(X:Kk):List Row:=if cst X=0 then K else K++[(r.1,X)]
def stp(t:Θ)(K:List Row)(r:Row):List Row:=match K.getLast? with
 |some q=>if q.1=r.1 then nQ K.dropLast r (bx (dN t (bM K.dropLast)) q.2 r.2)else nQ K r (bf r.2)
 |none=>nQ K r (bf r.2)
def Bh{t:Θ}{K:List Row}{o:Θ}{a c X:Kk}(T:Tn a c X (dN t (bM K))):stp t (K++[(o,a)]) (o,c)=nQ K (o,c) X:=by
 unfold stp;simp only[adA,List.getLast?_singleton,Option.some_or,List.dropLast_concat,aa0];rw[TU T]
def sE{t:Θ}{K:List Row}{r:Row}(h:∀K' q,K=K'++[q]->q.1≠r.1):stp t K r=nQ K r (bf r.2):=by
 unfold stp;split
 .rename_i q a;obtain⟨K',rfl⟩:=List.getLast?_eq_some_iff.mp a;rw[aaH (h K' q rfl)]
 .rfl
def dw(t:Θ)(rs:List Row):List Row:=rs.foldl (stp t) []
def OQ(t:Θ)(a b:List Row):dw t (a++b)=b.foldl (stp t) (dw t a):=by simp[dw]
def uu(K:List Row):Prop:=∀A a b B,K=A++a :: b :: B->a.1≠b.1
def uu.init{K:List Row}{x:Row}(h:uu (K++[x])):uu K:=λA a b B e=>h A a b (B++[x]) (by simp[e])
def uu.snoc{K:List Row}{x:Row}(h:uu K)(h2:∀K' q,K=K'++[q]->q.1≠x.1):uu (K++[x]):=by
 intro A a b B e;rcases abf B with rfl|⟨B',y,d⟩
 .rw[show A++[a,b]=(A++[a])++[b]by simp]at e;obtain⟨c,f⟩:=ade e rfl;cases f;exact h2 A a c
 .rw[abg]at d;subst d;rw[show A++a :: b :: (B'++[y])=(A++a :: b :: B')++[y]by simp]at e;obtain⟨c,f⟩:=ade e rfl;exact h A a b B' c
def uu.last{K:List Row}{x:Row}(h:uu (K++[x])):∀K' q,K=K'++[q]->q.1≠x.1:=λK' q e=>h K' q x [] (by simp[e])
structure Nm(t:Θ)(rs K:List Row):Prop where
 ch:Ch t (bM K)
 tx:dN t (bM K)=dN t (bM rs)
 ow:∀st:T0,st.length=t.length->ows st K=ows st rs
 fm:∀q∈K,bf q.2=q.2/\0<cst q.2
 ad:uu K
 ln:K.length<=rs.length
 sb:∀q∈K,∃r∈rs,r.1=q.1
 tt:dW (bM K)<=dW (bM rs)
def Nm.nil(t:Θ):Nm t [] []:=by
 refine⟨trivial,rfl,λ_ _=>rfl,?_,?_,aaB _,?_,aaB _⟩
 .intro q h;cases h
 .intro A a b B e;simp at e
 .intro q h;cases h
theorem CZ{t:Θ}:∀{rs:List Row}{st:T0},st.length=t.length->Ch t (bM rs)->(ows st rs).length=(dN t (bM rs)).length
 |[],st,h,_=>h
 |r :: rs,st,h,hc=>by
  have a:aS r.2 t=true:=hc.1;exact CZ (t:=aB r.2 t) (by rw[ON,uT a]) hc.2
def lV(K:List Row)(r:Row):dW (bM (K++[r]))=dW (bM K)+tot r.2:=by simp[dW,bM]
def jW(t:Θ)(K:List Row)(r:Row):dN t (bM (K++[r]))=aB r.2 (dN t (bM K)):=by rw[xT,OJ];rfl
def tT{t:Θ}{K:List Row}{r:Row}:Ch t (bM (K++[r]))↔Ch t (bM K)/\aS r.2 (dN t (bM K))=true:=by
 rw[xT,Be];exact⟨λh=>⟨h.1,h.2.1⟩,λh=>⟨h.1,h.2,trivial⟩⟩
def qv(st:T0)(K:List Row)(r:Row):ows st (K++[r])=qO (ows st K) r:=by rw[OM];rfl
section
variable{t:Θ}{rs K:List Row}{o:Θ}{c:Kk}
def Nm.push{z:List Row}{X:Kk}(I:Ch t (bM z))(Z:aS X (dN t (bM z))=true)(tx:aB X (dN t (bM z))=dN t (bM (rs++[(o,c)])))(ow:∀st:T0,st.length=t.length->qO (ows st z) (o,X)=ows st (rs++[(o,c)]))(fm:∀q∈z,bf q.2=q.2/\0<cst q.2)(fX:bf X=X)(ad:uu z)(al:∀K2 q,z=K2++[q]->q.1≠o)(ln:z.length<=rs.length)(sb:∀q∈z,∃r∈rs,r.1=q.1)(tt:dW (bM z)+tot X<=dW (bM (rs++[(o,c)]))):Nm t (rs++[(o,c)]) (nQ z (o,c) X):=by
 have b:∀q∈z,∃r∈rs++[(o,c)],r.1=q.1:=λq a=>by
  obtain⟨r,g,e⟩:=sb q a;exact⟨r,abl _ g,e⟩
 unfold nQ;split
 .rename_i f;refine⟨I,?_,λst d=>?_,fm,ad,by simp;lia,b,by lia⟩
  .rw[<-tx,EC f Z]
  .rw[<-ow st d,HJ f (by rw[CZ d I,iH Z])]
 .rename_i f;refine⟨tT.mpr ⟨I,Z⟩,by rw[jW];exact tx,λst d=>by rw[qv];exact ow st d,λq a=>?_,ad.snoc al,by simp;lia,λq a=>?_,by rw[lV];exact tt⟩
  .rcases k8 a with a|a
   .exact fm q a
   .rw[aa2]at a;subst a;exact⟨fX,by simp only;lia⟩
  .rcases k8 a with a|a
   .exact b q a
   .rw[aa2]at a;subst a;exact⟨(o,c),by simp,rfl⟩
def Nm.step(N:Nm t rs K)(I:aS c (dN t (bM rs))=true)(Z:∀K' a,K=K'++[(o,a)]->∃X,Tn a c X (dN t (bM K'))):Nm t (rs++[(o,c)]) (stp t K (o,c)):=by
 by_cases h:∃K' a,K=K'++[(o,a)]
 .obtain⟨K',a,rfl⟩:=h;obtain⟨X,T⟩:=Z K' a rfl;rw[Bh T];obtain⟨p,r⟩:=tT.mp N.ch;have b:=N.tx;rw[jW]at b;have j:=N.tt;rw[lV]at j;have x:=T.tt;refine Nm.push p T.fit ?_ (λd f=>?_) (λq g=>N.fm q (abl _ g)) T.BR N.ad.init (λK2 q e=>N.ad.last K2 q e) (by have:=N.ln;simp at this;lia) (λq g=>N.sb q (abl _ g)) (by rw[lV];simp only at j ⊢;lia)
  .rw[T.dn,jW,<-b]
  .rw[qv,<-N.ow d f,qv];refine OP ?_ T.TM;rw[<-iH I,<-b];exact uT r
 .have k:∀K' q,K=K'++[q]->q.1≠o:=λK' q e z=>h ⟨K',q.2,by rw[e];subst z;rfl⟩;rw[sE k];refine Nm.push N.ch (by rw[A4,N.tx];exact I) ?_ (λd f=>?_) N.fm (oB c) N.ad k N.ln N.sb (by rw[lV,jV];have:=N.tt;simp only;lia)
  .rw[j3,N.tx,jW]
  .rw[qv,N.ow d f];unfold qO;rw[fR]
end
theorem zA:∀(rs:List (Kk)) (t:Θ),(dN t rs).length<=t.length+dW rs
 |[],t=>by simp[dN,dW]
 |c :: rs,t=>by
  have d:=nP c t;have e:=zA rs (aB c t);have a:dW (c :: rs)=tot c+dW rs:=by simp[dW]
  have b:dN t (c :: rs)=dN (aB c t) rs:=rfl;rw[a,b];lia
structure wm(t:Θ)(rs:List Row):Prop where
 ch:Ch t (bM rs)
 ln:∀r∈rs,r.2.length<=900
 tt:t.length+dW (bM rs)<=900
theorem wm.at{t:Θ}{rs p l:List Row}{r:Row}(h:wm t rs)(e:p++r :: l=rs):aS r.2 (dN t (bM p))=true/\r.2.length<=900/\tot r.2<=900/\(dN t (bM p)).length<=900/\dW (bM p)+tot r.2<=900:=by
 have a:=h.ch;have b:=h.tt;have d:=zA (bM p) t;rw[<-e,xT]at a b;have c:dW (bM p++bM (r :: l))=dW (bM p)+(tot r.2+dW (bM l)):=by simp[dW,bM]
 rw[c]at b;exact⟨((Be.mp a).2).1,h.ln r (by rw[<-e];simp),by lia,by lia,by lia⟩
abbrev kH(z:Nat)(I:Nat)(Z:Nat):Fn:=⟨1,5,(.cons (.set 1 (.lst .nil)) (.cons (.for (.many [2,3]) (.seq (.v 0)) (.cons (.set 4 (.cl z (.cons (.v 3) .nil))) (.cons (.iff (.an (.v 1) (.cmp .eq (.ix (.ix (.v 1) (.neg (.c (.int 1)))) (.c (.int 0))) (.v 2))) (.cons (.set 4 (.cl I (.cons (.ix (.me .pop (.v 1) .nil) (.c (.int 1))) (.cons (.v 3) .nil)))) .nil) .nil) (.cons (.iff (.cmp .gt (.cl Z (.cons (.v 4) .nil)) (.c (.int 0))) (.cons (.exp (.me .append (.v 1) (.cons (.tup (.cons (.v 2) (.cons (.v 4) .nil))) .nil))) .nil) .nil) .nil)))) (.cons (.ret (.v 1)) .nil)))⟩
abbrev yO(z:Nat):S:=.iff (.cmp .lt (.bi .len (.cons (.v 2) .nil)) (.c (.int 7))) (.cons (.ret (.cl z (.cons (.v 0) (.cons (.v 1) (.cons (.v 2) .nil))))) .nil) .nil
abbrev yP(z:Nat):S:=.set 3 (.cl z (.cons (.v 0) (.cons (.bin .add (.v 1) (.c (.int 61))) (.cons (.bin .sub (.bi .len (.cons (.v 2) .nil)) (.c (.int 3))) .nil))))
abbrev yQ:S:=.set 4 (.fV (.cmp .gt (.v 3) (.c (.int 0))) (.tup (.cons (.tup (.cons (.c (.str [107,101,101,112])) (.cons (.v 3) .nil))) .nil)) (.tup .nil))
abbrev yR:S:=.set 5 (.bin .sub (.bin .sub (.bi .len (.cons (.v 2) .nil)) (.v 3)) (.c (.int 3)))
abbrev yS(z:Nat):S:=.ret (.bin .add (.bin .add (.v 4) (.cl z (.cons (.v 0) (.cons (.v 1) (.cons (.sl (.v 2) (.yes (.v 3)) (.yes (.bin .add (.v 3) (.c (.int 3))))) .nil))))) (.fV (.cmp .gt (.v 5) (.c (.int 0))) (.tup (.cons (.tup (.cons (.c (.str [107,101,101,112])) (.cons (.v 5) .nil))) .nil)) (.tup .nil)))
abbrev j5(z:Nat)(I:Nat):Fn:=⟨3,6,(.cons (.iff (.cmp .eq (.cl z (.cons (.v 0) (.cons (.bin .add (.v 1) (.c (.int 60))) (.cons (.c (.int 5)) .nil)))) (.c (.int 0))) (.cons (.ret (.fV (.cmp .ne (.v 2) (.c (.str []))) (.tup (.cons (.tup (.cons (.c (.str [107,101,101,112])) (.cons (.bi .len (.cons (.v 2) .nil)) .nil))) .nil)) (.tup .nil))) .nil) .nil) (.cons (yO I) (.cons (yP z) (.cons yQ (.cons yR (.cons (yS I) .nil))))))⟩
def Mj(ns:Q1)(k:Int)(x:Θ)(b:Nat)(h:x.length<=b):(chg ns k x).length<=2*b+2/\tot (chg ns k x)<=3*b+3:=by
 have a:=sj ns k x (x.length+1);have c:=yM ns k x (x.length+1);simp only[chg];lia
def HK(a b:Nat):Pv.bO .add (.int (a:Int)) (.int (b:Int))=some (.int ((a+b:Nat):Int)):=by rw[cj];congr 2
def T3{a b:Nat}(h:b<=a):Pv.bO .sub (.int (a:Int)) (.int (b:Int))=some (.int ((a - b:Nat):Int)):=by rw[jT];congr 2;lia
def C3{c o:Kk}{t u:Θ}(h:aS c t=true)(h2:aS o u=true):aS (c++o) (t++u)=true/\aB (c++o) (t++u)=aB c t++aB o u:=by
 have a:(aA (aX c)).length=t.length:=by rw[<-Bf,iH h]
 refine⟨?_,?_⟩
 .rw[jg,fZ];rw[jg]at h h2;exact uS h h2
 .rw[gz,mU,wk,a,<-gz,<-gz];simp
def uU(u:Θ):aS [.keep u.length] u=true/\aB [.keep u.length] u=u:=by simp[aS,aB]
def drawn{ns:Q1}(k:Int)(m:Nat)(h:0<m):∃p:Nat,dg ns k (m:Int)=(p:Int)/\p<m:=by
 have a:=pL ns k (many:=(m:Int)) (by lia);have b:=lR ns k (many:=(m:Int)) (by lia);exact⟨(dg ns k (m:Int)).toNat,by lia,by lia⟩
def OR(a b:Row):dQ (18+1) (aZ a) (aZ b)=some (decide (a=b)):=by
 have h:dQ 18 (aT a.2) (aT b.2)=some (decide (a.2=b.2)):=pK (f:=dQ 17) (g:=Pt.v) (G7 15) a.2 b.2;show cY (dQ 18) [.str a.1,aT a.2] [.str b.1,aT b.2]=_;rw[gy,gy,pJ,h,vU];obtain⟨c,d⟩:=a;obtain⟨e,j⟩:=b;by_cases k:c=e<;>by_cases p:d=j<;>simp[k,p]
def nR(K:List Row):Pv.cop .ne (.lst (K.map aZ)) (.lst (K.map aZ))=some false:=by rw[pI,xG,pK OR];simp
section
variable{F:List Fn}{w n:Nat}
def sF(s0:Sl)(K:List Row)(x y z:T2):Fr:=[some s0,some (.own (K.map aZ)),x,y,z]
variable{aC lW bQ bX cJ dG gU dD bF cI i:Nat}
variable(hsz:F[aC]?=some dj)(hco:F[lW]?=some (AQ aC))
include hsz hco
theorem Bj{s1:Sl}{K:List Row}{r:Row}{X:Kk}{Q:Fl->Fr->Prop}(z:K.length<=900)(I:tot X<=900)(Z:X.length<=900)(q:Q .nx (sF s1 (nQ K r X) (some (.val (.str r.1))) (some (.val (aT r.2))) (some (.val (aT X))))):
  Wp (exs (run F w (n+7)) w (.cons (.iff (.cmp .gt (.cl lW (.cons (.v 4) .nil)) (.c (.int 0))) (.cons (.exp (.me .append (.v 1) (.cons (.tup (.cons (.v 2) (.cons (.v 4) .nil))) .nil))) .nil) .nil) .nil) (sF s1 K (some (.val (.str r.1))) (some (.val (aT r.2))) (some (.val (aT X))))) Q:=by
 have k:=λfr=>ig (fr:=fr) (JV (F:=F) (w:=w) (n:=n+5) hsz hco X (by lia) (by lia));by_cases h:cst X=0
 .rw[nQ,OL h]at q;exact ai (aM (b:=false) (aF rfl (bT (cR (aR rfl (au rfl) aO) (k _)) (aG rfl) ql) (by simp[truthy,h])) (zS ·) λ_=>aD (aD q))
 .rw[nQ,aaH h]at q;refine ai (aM (b:=true) (aF rfl (bT (cR (aR rfl (au rfl) aO) (k _)) (aG rfl) ql) (by simp[truthy];lia)) (λ_=>?_) λh=>absurd h (by decide));refine ai (eK (qj rfl rfl (aq (cF (aq (au rfl) (aq (au rfl) ay)) eH) ay) (tM (by simp;lia))) (aD (aD ?_)));unfold sF at q ⊢;rw[aaG]at q;exact q
omit hsz hco in
theorem ED{K:List Row}{q:Row}(h:q∈K):tot q.2<=dW (bM K):=by
 induction K with
 |nil=>cases h
 |cons a K b=>
  have e:dW (bM (a :: K))=tot a.2+dW (bM K):=by simp[dW,bM]
  rw[e];rcases qE h with rfl|h
  .lia
  .have:=b h;lia
omit hsz hco in
theorem f_len{c:Kk}(h:bf c=c):c.length<=tot c:=by rw[<-h];exact kZ (mW (kW _))
theorem sG{x9:Nat}{s0:Sl}{os:List (T0)}(hst:F[bQ]?=some gY)(hfo:F[bX]?=some (nL bQ))(u6:F[cJ]?=some (kT aC))(haf:F[dG]?=some (mT aC))(hpa:F[cI]?=some ji)(hta:F[bF]?=some (kX cI aC))(hme:F[dD]?=some (tR x9))(Bd:F[gU]?=some (lU dG cJ bX aC dD bF x9))(hsq:F[i]?=some (kH bX gU lW))(hw:5000<w){t:Θ}{rs:List Row}(R:wm t rs)(hl:rs.length<=100)(hS:Hd (rs.map aZ) s0 os):run F w (n+8) i [s0]=some (.lst ((dw t rs).map aZ),os)/\Nm t rs (dw t rs):=by
 have Z:∀a c d e,Aq false [some s0.walk,a,c,d,e] 0=some (.lst (rs.map aZ)):=λ_ _ _ _=>by cases hS<;>rfl
 have g2:s0.walk.dz=s0.walk:=by cases hS<;>rfl
 have g3:∀a c d e,outs 1 [some s0.walk,a,c,d,e]=os:=λ_ _ _ _=>by cases hS<;>rfl
 have H:Wp (exs (run F w (n+7)) w (kH bX gU lW).body (cX (kH bX gU lW) [s0])) λr fr=>Nm t rs (dw t rs)/\r=.ret (.lst ((dw t rs).map aZ))/\outs 1 fr=os:=by
  refine ai (gQ (l:=[]) (fB ay lz) rfl rfl ?_);refine ai (kC (vs:=rs.map aZ) (ef (er (Z _ _ _ _)) rfl) ?_);refine gn (e:=aZ) (λp l fr=>p++l=rs/\Nm t p (dw t p)/\∃x y z,vo x/\vo y/\vo z/\fr=sF s0.walk (dw t p) x y z) (λp r l fr ⟨g,N,x,y,z,I,J,hz,k⟩=>?_) (λp fr ⟨g,N,x,y,z,I,J,hz,k⟩=>?_) rs [] _ ⟨rfl,Nm.nil t,none,none,none,.none,.none,.none,rfl⟩
  .subst k;obtain⟨P,h2,h3,h4,h5⟩:=R.at g;have G:dw t (p++[r])=stp t (dw t p) r:=by rw[OQ];rfl
   have kl:=N.ln;have pl:p.length<=100:=by rw[<-g]at hl;simp at hl;lia
   have ktt:=N.tt;have T:∀K' a,dw t p=K'++[(r.1,a)]->∃X,run F w (n+7) gU [.val (aT a),.val (aT r.2)]=some (aT X,[])/\Tn a r.2 X (dN t (bM K')):=λK' a e=>by
    have m:(r.1,a)∈dw t p:=by rw[e];simp
    have Q:=ED m;have b2:=f_len (N.fm _ m).1;have W:=N.ch;have L:=N.tx;rw[e]at W L;rw[jW]at L;exact J7 (F:=F) (w:=w) (n:=n+4) hsz hpa hta hme hst hfo u6 haf Bd hw a r.2 (dN t (bM K')) (tT.mp W).2 (by rw[L];exact P) (by simp only at Q;lia) (by lia) (by simp only at Q b2;lia) (by lia)
   have N2:Nm t (p++[r]) (dw t (p++[r])):=by
    rw[G];exact N.step P λK' a e=>by obtain⟨X,_,hX⟩:=T K' a e;exact⟨X,hX⟩
   have f:=λfr=>ig (fr:=fr) (qp (F:=F) (w:=w) (n:=n+5) hst hfo r.2 (by lia) (by lia));have ft:tot (bf r.2)=tot r.2:=jV _;have fl_:=f_len (oB r.2);refine di (af:=sF s0.walk (dw t p) (some (.val (.str r.1))) (some (.val (aT r.2))) z) (ir rfl I rfl J) ?_;refine ai (aK (ao:=sF s0.walk (dw t p) (some (.val (.str r.1))) (some (.val (aT r.2))) (some (.val (aT (bf r.2))))) (cR (aR rfl (au rfl) aO) (f _)) rfl (bZ rfl hz) ?_);have fin:∀X,nQ (dw t p) r X=dw t (p++[r])->(p++[r])++l=rs/\Nm t (p++[r]) (dw t (p++[r]))/\∃x y z,vo x/\vo y/\vo z/\sF s0.walk (nQ (dw t p) r X) (some (.val (.str r.1))) (some (.val (aT r.2))) (some (.val (aT X)))=sF s0.walk (dw t (p++[r])) x y z:=λX e=>⟨by simpa using g,N2,_,_,_,.val,.val,.val,by rw[e]⟩
   rcases abf (dw t p)with j|⟨K',q,j⟩
   .have B:stp t (dw t p) r=nQ (dw t p) r (bf r.2):=sE λK2 q2 C=>by rw[j]at C;simp at C
    refine je (r8 (aF rfl (au rfl) (by rw[j];rfl))) ?_;refine Bj hsz hco (by lia) (by lia) (by lia) ?_;rw[dZ];exact fin _ (by rw[G,B])
   .rw[abg]at j;have Y:fy (.lst ((dw t p).map aZ)) (.int (-1))=some (aZ q):=by
     show bz ((dw t p).map aZ) (-1)=_;rw[j,AN,aaG];simp
    have tr:truthy (.lst ((dw t p).map aZ))=true:=by rw[j];show(!((K'++[q]).map aZ).isEmpty)=true;simp
    by_cases A:q.1=r.1
    .obtain⟨X,M,TX⟩:=T K' q.2 (by rw[j,<-A]);have M:=λfr=>call2 (fr:=fr) M;have B:stp t (dw t p) r=nQ K' r X:=by
      rw[j,show q=(r.1,q.2)by rw[<-A]];exact Bh (o:=r.1) (c:=r.2) TX
     have tX:=TX.tt;have lX:=TX.ln;have mq:=ED (K:=dw t p) (q:=q) (by rw[j];simp);refine ai (aM (b:=true) (jd (aF rfl (au rfl) tr) (aF rfl (bT (cG (cG (au rfl) (mG (aG rfl)) Y) (aG rfl) rfl) (au rfl) iK) (by simp[truthy,A]))) (λ_=>?_) λh=>absurd h (by decide));have po:jL .pop 1 [] (sF s0.walk (dw t p) (some (.val (.str r.1))) (some (.val (aT r.2))) (some (.val (aT (bf r.2))))) (some (some (.own ((dw t p).map aZ))))=.ok (aZ q) (sF s0.walk K' (some (.val (.str r.1))) (some (.val (aT r.2))) (some (.val (aT (bf r.2))))):=by
      rw[j,aaG];exact xJ
     refine ai (aK (cR (aR rfl (cG (qj rfl rfl ay po) (aG rfl) rfl) (aR rfl (au rfl) aO)) (M _)) rfl rfl (aD ?_));refine Bj hsz hco (by have:=aaL List.length j;simp at this;lia) (by lia) (by lia) ?_;rw[dZ];exact⟨by simpa using g,N2,_,_,_,.val,.val,.val,by rw[G,B]⟩
    .have B:stp t (dw t p) r=nQ (dw t p) r (bf r.2):=sE λK2 q2 C=>by
      rw[j]at C;obtain⟨_,e3⟩:=ade C rfl;cases e3;exact A
     refine je (jd (aF rfl (au rfl) tr) (aF rfl (bT (cG (cG (au rfl) (mG (aG rfl)) Y) (aG rfl) rfl) (au rfl) iK) (by simp[truthy,A]))) ?_;refine Bj hsz hco (by lia) (by lia) (by lia) ?_;rw[dZ];exact fin _ (by rw[G,B])
  .subst k;rw[aaJ]at g;subst g;refine ai (bJ (af:=[some s0.walk,some (.val (.lst ((dw t p).map aZ))),x,y,z]) ?_ ⟨N,rfl,g3 _ _ _ _⟩);have sh:fK (sF s0.walk (dw t p) x y z)=[some s0.walk,some (.val (.lst ((dw t p).map aZ))),x,y,z]:=by
    show [_,_,x.map Sl.dz,y.map Sl.dz,z.map Sl.dz]=_;rw[dF I,dF J,dF hz];show some s0.walk.dz :: _=_;rw[g2];rfl
   rw[sh];exact au rfl
 obtain⟨r,fr,e,N,hr,A⟩:=H;exact⟨bK (fn:=kH bX gU lW) hsq rfl ⟨r,fr,e,hr,A⟩,N⟩
end
section
variable{F:List Fn}{w n c0 sH sI i:Nat}{ns:Q1}
def EE(hn:ns.length<=63)(hc:F[c0]?=some tN)(hd:F[sH]?=some (rZ c0))(Cm:F[sI]?=some (xP sH))(hsm:F[i]?=some (j5 sH sI))(a:Int)(t:Θ)(ht:t.length<=400):∃c,run F w (n+7) i [.val (j0 ns),.val (.int a),.val (.str t)]=some (aT c,[])/\aS c t=true/\c.length<=14/\tot c<=t.length+21/\((aB c t).length<=t.length+12\/(aB c t).length<=27)/\Hy c:=by
 have p:=λ(k:Int) (m:Nat) (hm:0<m) fr=>iR (fr:=fr) (gX (F:=F) (w:=w) (n:=n+4) hc hd hn k (many:=(m:Int)) (by lia));have r:=λ(x:Θ) (y:x.length<=400) fr=>iR (fr:=fr) (Ep (F:=F) (w:=w) (n:=n+3) hc hd hn Cm a x (by lia));have d:cZ .len [.str t]=some (.int (t.length:Nat)):=abI (by lia);have e:=p (a+60) 5 (by decide);by_cases f:dg ns (a+60) 5=0
 .by_cases A:t=[]
  .subst A;refine⟨[],bK (fn:=j5 sH sI) hsm rfl (ai (aM (b:=true) (aF rfl (bT (cR (aR rfl (au rfl) (aR rfl (aU (au rfl) (aG rfl) cj) (aR rfl (aG rfl) aO))) (e _)) (aG rfl) jG) (by show decide _=_;exact abn f)) (λ_=>?_) λh=>absurd h (by decide))),rfl,by simp,by simp[tot],.inl (by simp[aB]),λs h=>by simp at h⟩;exact ai (bJ (fC (b:=false) (fL rfl rfl jQ rfl) (zS ·) λ_=>cF ay Ec) ⟨rfl,rfl⟩)
  .have k:=uU t;refine⟨[.keep t.length],bK (fn:=j5 sH sI) hsm rfl (ai (aM (b:=true) (aF rfl (bT (cR (aR rfl (au rfl) (aR rfl (aU (au rfl) (aG rfl) cj) (aR rfl (aG rfl) aO))) (e _)) (aG rfl) jG) (by show decide _=_;exact abn f)) (λ_=>?_) λh=>absurd h (by decide))),k.1,by simp,by simp[tot,Pt.n],.inl (by rw[k.2];lia),λs h=>by simp at h⟩;exact ai (bJ (fC (b:=true) (aF rfl (bT (au rfl) (aG rfl) jQ) (by show(!decide (t=[]))=true;simp[A])) (λ_=>cF (aq (cF (aq (aG rfl) (aq (eF (aq (au rfl) ay) d) ay)) eH) ay) om) λh=>absurd h (by decide)) ⟨rfl,rfl⟩)
 .have first:∀{Q:Fl->Fr->Prop},Wp (exs (run F w (n+6)) w (.cons (yO sI) (.cons (yP sH) (.cons yQ (.cons yR (.cons (yS sI) .nil))))) [some (.val (j0 ns)),some (.val (.int a)),some (.val (.str t)),none,none,none]) Q->Wp (exs (run F w (n+6)) w (j5 sH sI).body (cX (j5 sH sI) [.val (j0 ns),.val (.int a),.val (.str t)])) Q:=λq=>
   ai (aM (b:=false) (aF rfl (bT (cR (aR rfl (au rfl) (aR rfl (aU (au rfl) (aG rfl) cj) (aR rfl (aG rfl) aO))) (e _)) (aG rfl) jG) (by show decide _=_;exact aaR f)) (zS ·) λ_=>aD q)
  by_cases h7:t.length<7
  .obtain⟨B,g⟩:=Mj ns a t 6 (by lia);have dl:=nP (chg ns a t) t;refine⟨chg ns a t,bK (fn:=j5 sH sI) hsm rfl (first (ai (aM (b:=true) (aF rfl (bT (eF (aq (au rfl) ay) d) (aG rfl) xN) (by show decide _=_;exact abn (by lia))) (λ_=>?_) λh=>absurd h (by decide)))),CT ns a t,by lia,by lia,.inr (by lia),CU ns a t⟩;exact ai (bJ (cR (aR rfl (au rfl) (aR rfl (au rfl) (aR rfl (au rfl) aO))) (r t (by lia) _)) ⟨rfl,rfl⟩)
  .obtain⟨P,L,hP⟩:=drawn (ns:=ns) (a+61) (t.length - 3) (by lia);have C:=p (a+61) (t.length - 3) (by lia);rw[L]at C;have ml:((t.drop P).take 3).length=3:=by simp;lia
   obtain⟨B,g⟩:=Mj ns a ((t.drop P).take 3) 3 (by lia);have G:=CT ns a ((t.drop P).take 3);have M:=nP (chg ns a ((t.drop P).take 3)) ((t.drop P).take 3);have I:=r ((t.drop P).take 3) (by lia);have J:=CU ns a ((t.drop P).take 3);generalize chg ns a ((t.drop P).take 3)=m at B g G M I J
   have y:∃H:Kk,H.length<=1/\tot H=P/\aS H (t.take P)=true/\aB H (t.take P)=t.take P/\Hy H/\∀fr:Fr,jS true fr 3=some (.int (P:Int))->jS false fr 3=some (.int (P:Int))->ev (run F w (n+6)) false (.fV (.cmp .gt (.v 3) (.c (.int 0))) (.tup (.cons (.tup (.cons (.c (.str [107,101,101,112])) (.cons (.v 3) .nil))) .nil)) (.tup .nil)) fr=.ok (aT H) fr:=by
    cases P with
    |zero=>exact⟨[],by simp,by simp[tot],by simp[aS],by simp[aB],(λs h=>by simp at h),λfr h K=>fC (b:=false) (aF rfl (bT (au h) (aG rfl) ql) rfl) (zS ·) λ_=>cF ay Ec⟩
    |succ P=>
     have k:=uU (t.take (P+1));rw[show(t.take (P+1)).length=P+1 by simp;lia]at k;exact⟨[.keep (P+1)],by simp,by simp[tot,Pt.n],k.1,k.2,(λs h=>by simp at h),λfr h K=>fC (b:=true) (aF rfl (bT (au h) (aG rfl) ql) (by show decide _=_;exact abn (by lia))) (λ_=>cF (aq (cF (aq (aG rfl) (aq (au K) ay)) eH) ay) om) λh=>absurd h (by decide)⟩
   obtain⟨H,lH,N,W,X,Y,Z⟩:=y;have j:=uU (t.drop (P+3));rw[show(t.drop (P+3)).length=t.length - P - 3 by simp;lia]at j;have A1:=C3 W G;have A2:=C3 A1.1 j.1;have et:t.take P++(t.drop P).take 3++t.drop (P+3)=t:=by rw[aaX,<-aa9,adv,adv]
   rw[et]at A2;have s1:=T3 (a:=t.length) (b:=3) (by lia);have s2:=T3 (a:=t.length) (b:=P) (by lia);have s3:=T3 (a:=t.length - P) (b:=3) (by lia);have sl:fQ (.str t) (some (P:Int)) (some ((P+3:Nat):Int))=some (.str ((t.drop P).take 3)):=by
    rw[jt];exact aaL (λz=>some (V.str z)) (lT t P 3)
   have a1:Pv.bO .add (aT H) (aT m)=some (aT (H++m)):=by
    show Pv.bO .add (.tup (H.map Pt.v)) (.tup (m.map Pt.v))=_;rw[qh (by simp;lia),<-aaG];rfl
   have a2:Pv.bO .add (aT (H++m)) (.tup [.tup [.str [107,101,101,112],.int ((t.length - P - 3:Nat):Int)]])=some (aT (H++m++[.keep (t.length - P - 3)])):=by
    show Pv.bO .add (.tup ((H++m).map Pt.v)) (.tup [_])=_;rw[qh (by simp;lia)];show _=some (V.tup (((H++m)++[Pt.keep (t.length - P - 3)]).map Pt.v));rw[aaG (l₂:=[Pt.keep (t.length - P - 3)])];rfl
   refine⟨H++m++[.keep (t.length - P - 3)],bK (fn:=j5 sH sI) hsm rfl (first ?_),A2.1,by simp;lia,by rw[eU,eU];simp[tot,Pt.n]at N g ⊢;lia,.inl (by rw[A2.2,A1.2,X,j.2];simp;lia),λs h=>by
    simp only[acd,aa2]at h;rcases h with (h|h)|h
    .exact Y s h
    .exact J s h
    .cases h⟩
   refine je (aF rfl (bT (eF (aq (au rfl) ay) d) (aG rfl) xN) (by show decide _=_;exact aaR (by lia))) ?_;refine ai (aK (cR (aR rfl (au rfl) (aR rfl (aU (au rfl) (aG rfl) cj) (aR rfl (aU (eF (aq (au rfl) ay) d) (aG rfl) s1) aO))) (C _)) rfl rfl ?_);refine ai (aK (Z _ rfl rfl) rfl rfl ?_);refine ai (aK (aU (aU (eF (aq (au rfl) ay) d) (au rfl) s2) (aG rfl) s3) rfl rfl ?_);exact ai (bJ (aU (aU (au rfl) (cR (aR rfl (au rfl) (aR rfl (au rfl) (aR rfl (oU (au rfl) (fW (au rfl)) (fW (aU (au rfl) (aG rfl) (HK P 3))) sl) aO))) (I _)) a1) (fC (b:=true) (aF rfl (bT (au rfl) (aG rfl) ql) (by show decide _=_;exact abn (by lia))) (λ_=>cF (aq (cF (aq (aG rfl) (aq (au rfl) ay)) eH) ay) om) λh=>absurd h (by decide)) a2) ⟨rfl,rfl⟩)
end
def uV{c:Ev.Cl}{l:T0}:lN c (some (some (.ob c l)))=some l:=OL rfl
def ZK{c:Ev.Cl}{l:T0}:lN c (some (some (.oo c l)))=some l:=OL rfl
def EF{c:Ev.Cl}{l:T0}:uh c (some (some (.ob c l)))=some (.ob c l,l):=OL rfl
def k9{c:Ev.Cl}{l:T0}:(lN c (some (some (.ob c l)))).isSome=true:=by rw[uV];rfl
def J9{c:Ev.Cl}{l:T0}:(lN c (some (some (.oo c l)))).isSome=true:=by rw[ZK];rfl
def T4{F:List Ev.Fn}{w n f:Nat}{ds:List Sl}{fn:Ev.Fn}{os:List (T0)}(z:F[f]?=some fn)(I:ds.length=fn.np)(q:Wp (exs (run F w n) w fn.body (cX fn ds)) λg fr=>g=.nx/\outs fn.np fr=os):run F w (n+1) f ds=some (.aN,os):=by
 obtain⟨g,fr,e,rfl,a⟩:=q;rw[run_eq z I,e];show some (V.aN,outs fn.np fr)=_;rw[a]
def gD(c:Ev.Cl)(l:T0)(s:Sl):Prop:=s=.ob c l\/s=.oq c l
def gD.s{c:Ev.Cl}{l:T0}{x:Sl}(h:gD c l x):lN c (some (some x))=some l:=by rcases h with rfl|rfl<;>exact OL rfl
def gD.i{c:Ev.Cl}{l:T0}{x:Sl}(h:gD c l x):(lN c (some (some x))).isSome=true:=by rw[h.s];rfl
def gD.o{c:Ev.Cl}{l:T0}{x:Sl}(h:gD c l x):Sl.out x=some l:=by rcases h with rfl|rfl<;>rfl
def gD.sh{c:Ev.Cl}{l:T0}{x:Sl}(h:gD c l x):fK [some x]=[some x]:=by rcases h with rfl|rfl<;>rfl
theorem gD.l{c:Ev.Cl}{l:T0}{x:Sl}(h:gD c l x):x.lend=some x:=by rcases h with rfl|rfl<;>rfl
def gD.w{c:Ev.Cl}{l:T0}{x:Sl}(h:gD c l x):x.with l=x:=by rcases h with rfl|rfl<;>rfl
theorem gD.v{c:Ev.Cl}{l:T0}{x:Sl}{fr:Fr}{j:Nat}(h:gD c l x)(e:fr[j]?=some (some x)):jK fr (.v j)=some j:=by
 show(if (lent fr j).isSome then some j else none)=_;have:lent fr j=some x:=by unfold lent;rw[e];exact h.l
 rw[this];rfl
section
variable{P:aJ}{g j:Nat}{fr ao:Fr}{s x:Sl}{l':T0}{v a b d:V}{vs:T0}
def OS(e:fr[j]?=some (some s))(z:s.lend=some x):lent fr j=some x:=by unfold lent;rw[e];exact z
theorem oG:∀vs:T0,bC (vs.map .inr)=[]/\args fr (vs.map .inr)=some (vs.map Sl.val)
 |[]=>⟨rfl,rfl⟩
 |v :: vs=>⟨(oG vs).1,by rw[aaD,args,(oG vs).2];rfl⟩
def Ml(vs:T0)(e:fr[j]?=some (some s))(z:s.lend=some x)(h:P g (x :: vs.map .val)=some (v,[l']))(hr:fr.set j (some (s.with l'))=ao):cz P g (.inl j :: vs.map .inr) fr=.ok v ao:=by
 subst hr;have nd:(bC (.inl j :: vs.map (.inr:V->Nat ⊕ V))).Nodup:=by rw[bC,(oG (fr:=[]) vs).1];simp
 unfold cz;rw[OL nd];simp only[args,OS e z,Option.bind,(oG (fr:=fr) vs).2,Option.map,h];rw[bC,(oG (fr:=fr) vs).1];simp only[back,e,bS,ak]
def oH(e:fr[j]?=some (some s))(z:s.lend=some x)(h:P g [x]=some (v,[l']))(hr:fr.set j (some (s.with l'))=ao):cz P g [.inl j] fr=.ok v ao:=Ml [] e z h hr
def kO1(e:fr[j]?=some (some s))(z:s.lend=some x)(h:P g [x,.val a]=some (v,[l']))(hr:fr.set j (some (s.with l'))=ao):cz P g [.inl j,.inr a] fr=.ok v ao:=Ml [a] e z h hr
def kO2(e:fr[j]?=some (some s))(z:s.lend=some x)(h:P g [x,.val a,.val b]=some (v,[l']))(hr:fr.set j (some (s.with l'))=ao):cz P g [.inl j,.inr a,.inr b] fr=.ok v ao:=Ml [a,b] e z h hr
def Mm(e:fr[j]?=some (some s))(z:s.lend=some x)(h:P g [x,.val a,.val b,.val d]=some (v,[l']))(hr:fr.set j (some (s.with l'))=ao):cz P g [.inl j,.inr a,.inr b,.inr d] fr=.ok v ao:=Ml [a,b,d] e z h hr
end
abbrev aP:Ev.Cl:=⟨[76,101,100,103,101,114],[[102,105,114,115,116],[115,116,101,112,115],[108,97,116,101,114]],1,3⟩
abbrev Lp:=Θ×List Row×Θ
def gE(s:Lp):V:=.tup [.str s.1,.tup (s.2.1.map aZ),.str s.2.2]
def lO(t:Θ)(S L:List Lp):T0:=[.str t,.tup (S.map gE),.tup (L.map gE)]
def bP(t:Θ)(S:List Lp):Θ:=match S.getLast? with
 |some s=>s.2.2
 |none=>t
def br(S:List Lp):List Row:=match S.getLast? with
 |some s=>s.2.1
 |none=>[]
def HL(t:Θ)(S:List Lp)(s:Lp):bP t (S++[s])=s.2.2:=by unfold bP;simp
def Bk(S:List Lp)(s:Lp):br (S++[s])=s.2.1:=by unfold br;simp
def qP{t:Θ}{S L:List Lp}:qM aP (lO t S L) 1=some (S.map gE):=by unfold qM;rw[OL (by decide)];rfl
def C4{t:Θ}{S L:List Lp}:qM aP (lO t S L) 2=some (L.map gE):=by unfold qM;rw[OL (by decide)];rfl
abbrev j6:Fn:=⟨1,1,.cons (.ret (.fV (.fu aP .t9 0 1 .nil) (.ix (.fu aP .ix 0 1 (.cons (.neg (.c (.int 1))) .nil)) (.c (.int 2))) (.fld aP 0 0))) .nil⟩
abbrev mX:Fn:=⟨1,1,.cons (.ret (.fV (.fu aP .t9 0 1 .nil) (.jx (.seq (.ix (.fu aP .ix 0 1 (.cons (.neg (.c (.int 1))) .nil)) (.c (.int 1))))) (.lst .nil))) .nil⟩
abbrev tV:Fn:=⟨4,4,.cons (.exp (.fm aP .app 0 1 (.cons (.tup (.cons (.v 1) (.cons (.kh (.v 2)) (.cons (.v 3) .nil)))) .nil))) (.cons (.q9 aP 0 2) .nil)⟩
abbrev xU(p:Nat):Fn:=⟨1,1,.cons (.iff (.nt (.fu aP .t9 0 1 .nil)) (.cons (.fP p) .nil) .nil) (.cons (.exp (.mv aP 0 2 1)) (.cons (.ret (.ix (.fu aP .ix 0 2 (.cons (.neg (.c (.int 1))) .nil)) (.c (.int 0)))) .nil))⟩
abbrev uW(p:Nat):Fn:=⟨1,1,.cons (.iff (.nt (.fu aP .t9 0 2 .nil)) (.cons (.fP p) .nil) .nil) (.cons (.exp (.mv aP 0 1 2)) (.cons (.ret (.ix (.fu aP .ix 0 1 (.cons (.neg (.c (.int 1))) .nil)) (.c (.int 0)))) .nil))⟩
abbrev yT:Fn:=⟨1,1,.cons (.ret (.tup (.cons (.fu aP .len 0 1 .nil) (.cons (.fu aP .len 0 2 .nil) .nil)))) .nil⟩
abbrev uX(z I Z sM:Nat):Fn:=⟨3,4,.cons (.set 3 (.cl z (.cons (.v 2) (.cons (.fq aP I (.cons (.v 0) .nil)) .nil)))) (.cons (.exp (.fq aP Z (.cons (.v 0) (.cons (.c (.str [119,114,105,116,101])) (.cons (.bin .add (.fq aP sM (.cons (.v 0) .nil)) (.lst (.cons (.tup (.cons (.v 1) (.cons (.v 2) .nil))) .nil))) (.cons (.v 3) .nil)))))) (.cons (.ret (.v 3)) .nil))⟩
abbrev C5(z I Z sL:Nat):Fn:=⟨1,3,.cons (.set 1 (.fq aP z (.cons (.v 0) .nil))) (.cons (.set 2 (.cl I (.cons (.v 1) .nil))) (.cons (.exp (.fq aP Z (.cons (.v 0) (.cons (.c (.str [102,111,108,100])) (.cons (.v 2) (.cons (.fq aP sL (.cons (.v 0) .nil)) .nil)))))) (.cons (.ret (.bin .sub (.bi .len (.cons (.v 1) .nil)) (.bi .len (.cons (.v 2) .nil)))) .nil)))⟩
section
variable{F:List Fn}{w n i p iT iE iS iD iQ aC cS:Nat}{t:Θ}{S L:List Lp}{s:Lp}
def xV(S:List Lp):rQ .t9 (S.map gE) []=some (.bl (!S.isEmpty)):=by cases S<;>rfl
def Mn(S:List Lp)(s:Lp):rQ .ix ((S++[s]).map gE) [.int (-1)]=some (gE s):=by
 show bz ((S++[s]).map gE) (-1)=_;rw[AN];simp
def pN(h:F[i]?=some j6){x:Sl}(z:gD aP (lO t S L) x):run F w (n+1) i [x]=some (.str (bP t S),[lO t S L]):=by
 refine bK h rfl (ai (bJ (af:=[some x]) ?_ ⟨rfl,by show [some x].filterMap _=_;simp only[aaS,acT,Option.bind,z.o]⟩));rw[show fK (cX j6 [x])=[some x]from z.sh];refine fC (b:=!S.isEmpty) (aF rfl (kR z.i ay z.s qP (xV S)) rfl) (λh=>?_) λh=>?_
 .rcases abf S with rfl|⟨S',s,e⟩
  .cases h
  .rw[abg]at e;subst e;rw[HL];exact cG (kR z.i (aq (mG (aG rfl)) ay) z.s qP (Mn S' s)) (aG rfl) rfl
 .cases S with
  |nil=>exact L0 z.s (by decide) rfl
  |cons a S=>cases h
def wo(h:F[i]?=some mX)(I:(br S).length<=1000){x:Sl}(z:gD aP (lO t S L) x):run F w (n+1) i [x]=some (.lst ((br S).map aZ),[lO t S L]):=by
 refine bK h rfl (ai (bJ (af:=[some x]) ?_ ⟨rfl,by show [some x].filterMap _=_;simp only[aaS,acT,Option.bind,z.o]⟩));rw[show fK (cX mX [x])=[some x]from z.sh];refine fC (b:=!S.isEmpty) (aF rfl (kR z.i ay z.s qP (xV S)) rfl) (λh=>?_) λh=>?_
 .rcases abf S with rfl|⟨S',s,e⟩
  .cases h
  .rw[abg]at e;subst e;rw[Bk]at I ⊢;exact zv (ef (show ev _ _ _ _=_ from cG (kR z.i (aq (mG (aG rfl)) ay) z.s qP (Mn S' s)) (aG rfl) rfl) rfl) (cW (bE (by rw[aaP];lia)))
 .cases S with
  |nil=>exact fB ay lz
  |cons a S=>cases h
def HM(h:F[i]?=some tV){wd u:Θ}{rs:List Row}(I:rs.length<=1000)(z:S.length<=1000):run F w (n+1) i [.ob aP (lO t S L),.val (.str wd),.val (.lst (rs.map aZ)),.val (.str u)]=some (.aN,[lO t (S++[(wd,rs,u)]) []]):=by
 refine T4 h rfl ?_;refine ai (eK (ZD (l:=lO t S L) (xs:=S.map gE) (v:=.aN) (xs':=(S++[(wd,rs,u)]).map gE) k9 (aq (cF (aq (au rfl) (aq (zw (au rfl) (show toT (.lst (rs.map aZ))=some (.tup (rs.map aZ))from nJ (bE (by rw[aaP];lia)))) (aq (au rfl) ay))) Ed) ay) EF qP (by simp only[GI];rw[OL (ach (show(S.map gE).length<=1000 by simpa using z) (by decide))];simp[gE]) rfl) ?_);exact ai (VN (l:=lO t (S++[(wd,rs,u)]) L) EF ⟨by decide,show 2<3 by decide⟩ rfl (aD ⟨rfl,rfl⟩))
def Ka(h:F[i]?=some yT):run F w (n+1) i [.ob aP (lO t S L)]=some (.tup [.int (S.length:Nat),.int (L.length:Nat)],[lO t S L]):=by
 refine bK h rfl (ai (bJ (cF (aq (kR k9 ay uV qP (show rQ .len (S.map gE) []=some (.int (S.length:Nat))by simp[rQ])) (aq (kR k9 ay uV C4 (show rQ .len (L.map gE) []=some (.int (L.length:Nat))by simp[rQ])) ay)) eH) ⟨rfl,rfl⟩))
def T5(h:F[i]?=some (xU p))(z:L.length<=1000):run F w (n+1) i [.ob aP (lO t (S++[s]) L)]=some (.str s.1,[lO t S (L++[s])]):=by
 have a:Ar aP (lO t (S++[s]) L) 2 1=some (lO t S (L++[s])):=by
  unfold Ar;rw[qP,C4];have c:((S++[s]).map gE)[((S++[s]).map gE).length - 1]?=some (gE s):=by simp
  have d:((S++[s]).map gE).dropLast=S.map gE:=by simp
  simp only[Option.bind];rw[c,d];simp only;rw[OL ⟨ach (show(L.map gE).length<=1000 by simpa using z) (by decide),by decide⟩];simp[lO]
 refine bK h rfl (je (qk (b:=true) (aF rfl (kR k9 ay uV qP (xV (S++[s]))) (by simp[truthy]))) ?_);refine ai (eK (To EF a rfl) ?_);exact ai (bJ (cG (kR k9 (aq (mG (aG rfl)) ay) uV C4 (Mn L s)) (aG rfl) rfl) ⟨rfl,rfl⟩)
def OT(h:F[i]?=some (uW p))(z:S.length<=1000):run F w (n+1) i [.ob aP (lO t S (L++[s]))]=some (.str s.1,[lO t (S++[s]) L]):=by
 have a:Ar aP (lO t S (L++[s])) 1 2=some (lO t (S++[s]) L):=by
  unfold Ar;rw[qP,C4];have c:((L++[s]).map gE)[((L++[s]).map gE).length - 1]?=some (gE s):=by simp
  have d:((L++[s]).map gE).dropLast=L.map gE:=by simp
  simp only[Option.bind];rw[c,d];simp only;rw[OL ⟨ach (show(S.map gE).length<=1000 by simpa using z) (by decide),by decide⟩];simp[lO]
 refine bK h rfl (je (qk (b:=true) (aF rfl (kR k9 ay uV C4 (xV (L++[s]))) (by simp[truthy]))) ?_);refine ai (eK (To EF a rfl) ?_);exact ai (bJ (cG (kR k9 (aq (mG (aG rfl)) ay) uV qP (Mn S s)) (aG rfl) rfl) ⟨rfl,rfl⟩)
def OU(I:F[iT]?=some j6)(Z:F[iE]?=some mX)(hS:F[iS]?=some tV)(z:F[aC]?=some dj)(Gp:F[cS]?=some (kG aC))(hD:F[iD]?=some (lS cS))(h:F[i]?=some (uX iD iT iS iE)){o:Θ}{c:Kk}(hf:aS c (bP t S)=true)(b1:tot c<=2000)(b2:c.length<=2000)(b3:(bP t S).length<=2000)(b4:(br S).length<=900)(b5:S.length<=900):run F w (n+4) i [.ob aP (lO t S L),.val (.str o),.val (aT c)]=some (.str (aB c (bP t S)),[lO t (S++[([119,114,105,116,101],br S++[(o,c)],aB c (bP t S))]) []]):=by
 have a:=λfr=>call2 (fr:=fr) (A6 (F:=F) (w:=w) (n:=n) z Gp hD c (bP t S) (by lia) (by lia) (by lia) hf);have b:=pN (w:=w) (n:=n+2) (t:=t) (S:=S) (L:=L) I (.inl rfl);have d:=wo (w:=w) (n:=n+2) (t:=t) (S:=S) (L:=L) Z (by lia) (.inl rfl);have e:=HM (w:=w) (n:=n+2) (t:=t) (S:=S) (L:=L) hS (wd:=[119,114,105,116,101]) (u:=aB c (bP t S)) (rs:=br S++[(o,c)]) (by simp;lia) (by lia);have f:bO .add (.lst ((br S).map aZ)) (.lst [.tup [.str o,aT c]])=some (.lst ((br S++[(o,c)]).map aZ)):=by
  rw[kP (by simp;lia),aaG];rfl
 refine bK h rfl ?_;refine ai (aK (cR (aR rfl (au rfl) (aR rfl (ju (k9 (c:=aP) (l:=lO t S L)) (fF rfl aO) (oH rfl rfl b rfl)) aO)) (a _)) rfl rfl ?_);refine ai (eK (ju (k9 (c:=aP) (l:=lO t S L)) (fF rfl (aR rfl (aG rfl) (aR rfl (aU (ju (k9 (c:=aP) (l:=lO t S L)) (fF rfl aO) (oH rfl rfl d rfl)) (fB (aq (cF (aq (au rfl) (aq (au rfl) ay)) eH) ay) qf) f) (aR rfl (au rfl) aO)))) (Mm rfl rfl e rfl)) ?_);exact ai (bJ (au rfl) ⟨rfl,rfl⟩)
def T6(z:F[iT]?=some j6)(I:F[iE]?=some mX)(Z:F[iS]?=some tV)(h:F[i]?=some (C5 iE iQ iS iT)){K:List Row}(hq:run F w (n+1) iQ [.val (.lst ((br S).map aZ))]=some (.lst (K.map aZ),[]))(b4:(br S).length<=900)(b6:K.length<=900)(b5:S.length<=900):run F w (n+2) i [.ob aP (lO t S L)]=some (.int (((br S).length:Nat) - (K.length:Nat)),[lO t (S++[([102,111,108,100],K,bP t S)]) []]):=by
 have d:=pN (w:=w) (n:=n) (t:=t) (S:=S) (L:=L) z (.inl rfl);have e:=wo (w:=w) (n:=n) (t:=t) (S:=S) (L:=L) I (by lia) (.inl rfl);have f:=HM (w:=w) (n:=n) (t:=t) (S:=S) (L:=L) Z (wd:=[102,111,108,100]) (u:=bP t S) (rs:=K) (by lia) (by lia);have q:=λfr=>ig (fr:=fr) hq;have a:cZ .len [.lst ((br S).map aZ)]=some (.int ((br S).length:Nat)):=by rw[kQ,aaP]
 have b:cZ .len [.lst (K.map aZ)]=some (.int (K.length:Nat)):=by rw[kQ,aaP]
 refine bK h rfl ?_;refine ai (aK (ju (k9 (c:=aP) (l:=lO t S L)) (fF rfl aO) (oH rfl rfl e rfl)) rfl rfl ?_);refine ai (aK (cR (aR rfl (au rfl) aO) (q _)) rfl rfl ?_);refine ai (eK (ju (k9 (c:=aP) (l:=lO t S L)) (fF rfl (aR rfl (aG rfl) (aR rfl (au rfl) (aR rfl (ju (k9 (c:=aP) (l:=lO t S L)) (fF rfl aO) (oH rfl rfl d rfl)) aO)))) (Mm rfl rfl f rfl)) ?_);exact ai (bJ (aU (eF (aq (au rfl) ay) a) (eF (aq (au rfl) ay) b) jT) ⟨rfl,rfl⟩)
end
abbrev iC(z:Nat):Fn:=⟨3,9,(.cons (.set 3 (.lst .nil)) (.cons (.set 4 (.lst .nil)) (.cons (.set 5 (.c (.int 0))) (.cons (.for (.one 6) (.seq (.v 2)) (.cons (.iff (.cmp .eq (.ix (.v 6) (.c (.int 0))) (.c (.str [112,117,116]))) (.cons (.exp (.me .extend (.v 3) (.cons (.comp (.v 1) (.one 8) (.seq (.ix (.v 6) (.c (.int 1)))) .no) .nil))) (.cons (.cnt) .nil)) .nil) (.cons (.set 7 (.sl (.v 0) (.yes (.v 5)) (.yes (.bin .add (.v 5) (.cl z (.cons (.v 6) .nil)))))) (.cons (.set 5 (.bin .add (.v 5) (.cl z (.cons (.v 6) .nil)))) (.cons (.iff (.cmp .eq (.ix (.v 6) (.c (.int 0))) (.c (.str [107,101,101,112]))) (.cons (.exp (.me .extend (.v 3) (.cons (.v 7) .nil))) .nil) (.cons (.exp (.me .extend (.v 4) (.cons (.v 7) .nil))) .nil)) .nil))))) (.cons (.ret (.tup (.cons (.v 3) (.cons (.v 4) .nil)))) .nil)))))⟩
abbrev wu(z:Nat)(I:Nat):Ss:=(.cons (.set 2 (.cl z (.cons (.v 6) (.cons (.v 2) .nil)))) (.cons (.set 7 (.cl I (.cons (.v 3) (.cons (.v 5) (.cons (.v 6) .nil))))) (.cons (.set 3 (.ix (.v 7) (.c (.int 0)))) (.cons (.exp (.me .extend (.v 4) (.cons (.ix (.v 7) (.c (.int 1))) .nil))) .nil))))
abbrev qw(z:Nat)(I:Nat):Fn:=⟨2,9,(.cons (.set 2 (.v 0)) (.cons (.set 3 (.comp (.c (.aN)) (.one 8) (.seq (.v 0)) .no)) (.cons (.set 4 (.lst .nil)) (.cons (.for (.many [5,6]) (.seq (.v 1)) (wu z I)) (.cons (.ret (.tup (.cons (.v 3) (.cons (.v 4) .nil)))) .nil)))))⟩
abbrev qx(z:Nat):Fn:=⟨2,2,(.cons (.ret (.ix (.cl z (.cons (.v 0) (.cons (.v 1) .nil))) (.c (.int 0)))) .nil)⟩
def tw(st:T0)(o:Θ)(p:Kk):T0:=(told 0 p).map (who st o)
def BC:Fn:=⟨1,1,(.cons (.ret (.an (.cmp .gt (.bi .len (.cons (.v 0) .nil)) (.c (.int 0))) (.cmp .eq (.ix (.ix (.v 0) (.neg (.c (.int 1)))) (.c (.int 0))) (.c (.str [112,117,116]))))) .nil)⟩
def kp(g:Nat->Bool):Nat->List Θ->Θ
 |_,[]=>[]
 |i,y :: a=>if decide (y=[])&&g i then i :: kp g (i+1) a else kp g (i+1) a
section
def ou(c:Kk)(x:Θ):Option Θ:=if aS c x=true then some (aB c x)else none
end
def mk(x:Θ)(l:Kk)(k:Nat)(f:Θ):Option Θ:=if k<=x.length/\aS l (x.drop k)=true then some (f++aB l (x.drop k))else none
section
variable{F:List Fn}{w n aC cS i:Nat}
def HN(z:F[aC]?=some dj)(I:F[cS]?=some (kG aC))(hd:F[i]?=some (lS cS))(c:Kk)(t:Θ)(h1:tot c<=10000)(h2:t.length<=10000)(h:aS c t=false):dM F w (n+3) i [.val (aT c),.val (.str t)]=some 0:=by
 have r:=A5 (w:=w) (n:=n) z I c t h1 h2;rw[h]at r;refine vY hd rfl (kE (fj F w (n+2)) (L1 (b:=true) (qk (aF rfl (cR (aR rfl (au rfl) (aR rfl (au rfl) aO)) (call2 r)) rfl)) ?_));rw[OL rfl];exact kE (fj F w (n+2)) zy
end
end Pv
namespace Pv
open Ev (deep big rep cut bz E Es Eo It T S Ss Fn)
def cP{α:Type}(z:List Nat->List α):Kk->List α->List α
 |[],_=>[]
 |.put s :: c,st=>z s++cP z c st
 |.keep k :: c,st=>st.take k++cP z c (st.drop k)
 |.drop s :: c,st=>cP z c (st.drop s.length)
def eX{α:Type}:Kk->List α->List α
 |[],_=>[]
 |.put _ :: c,st=>eX c st
 |.keep k :: c,st=>eX c (st.drop k)
 |.drop s :: c,st=>st.take s.length++eX c (st.drop s.length)
theorem pO{α:Type}{pu:List Nat->List α}(q:Kk):∀(p:Kk) (st:List α),cP pu (p++q) st=cP pu p st++cP pu q (st.drop (aE p))
 |[],st=>by simp[cP,aE,tot]
 |.put s :: p,st=>by simp only[aaW,cP,pO q p,mL,aaX]
 |.keep k :: p,st=>by simp only[aaW,cP,pO q p,mK,aaX,aa9]
 |.drop s :: p,st=>by simp only[aaW,cP,pO q p,oA,aa9]
theorem pP{α:Type}(q:Kk):∀(p:Kk) (st:List α),eX (p++q) st=eX p st++eX q (st.drop (aE p))
 |[],st=>by simp[eX,aE,tot]
 |.put s :: p,st=>by simp only[aaW,eX,pP q p,mL]
 |.keep k :: p,st=>by simp only[aaW,eX,pP q p,mK,aa9]
 |.drop s :: p,st=>by simp only[aaW,eX,pP q p,oA,aaX,aa9]
theorem tW{α β:Type}{z:List Nat->List α}(f:α->β):∀(c:Kk) (st:List α),(cP z c st).map f=cP (λs=>(z s).map f) c (st.map f)
 |[],st=>rfl
 |.put s :: p,st=>by simp only[cP,aaG,tW f p]
 |.keep k :: p,st=>by simp only[cP,aaG,tW f p,ab3,ab4]
 |.drop s :: p,st=>by simp only[cP,tW f p,ab4]
theorem sN{α:Type}{pu:List Nat->List α}(z:∀s,(pu s).length=s.length):∀(c:Kk) (st:List α),(cP pu c st).length<=tot c
 |[],st=>by simp[cP]
 |.put s :: p,st=>by have:=sN z p st;simp only[cP,aaE,z,bL,Pt.n];lia
 |.keep k :: p,st=>by have:=sN z p (st.drop k);simp only[cP,aaE,abk,bL,Pt.n];lia
 |.drop s :: p,st=>by have:=sN z p (st.drop s.length);simp only[cP,bL,Pt.n];lia
theorem nT{α:Type}:∀(c:Kk) (st:List α),(eX c st).length<=tot c
 |[],st=>by simp[eX]
 |.put s :: p,st=>by have:=nT p st;simp only[eX,bL,Pt.n];lia
 |.keep k :: p,st=>by have:=nT p (st.drop k);simp only[eX,bL,Pt.n];lia
 |.drop s :: p,st=>by have:=nT p (st.drop s.length);simp only[eX,aaE,abk,bL,Pt.n];lia
theorem qy{α:Type}{I:List Nat->List α}(z:∀s,(I s).length=s.length):∀(c:Kk) (st:List α) (t:Θ),st.length=t.length->(cP I c st).length=(aB c t).length
 |[],st,t,h=>rfl
 |.put s :: p,st,t,h=>by simp only[cP,aB,aaE,z,qy z p st t h]
 |.keep k :: p,st,t,h=>by simp only[cP,aB,aaE,abk,h,qy z p (st.drop k) (t.drop k) (by simp[h])]
 |.drop s :: p,st,t,h=>by simp only[cP,aB,qy z p (st.drop s.length) (t.drop s.length) (by simp[h])]
def gf{α:Type}(z:List Nat->List Nat->List α):List Row->List α->List α
 |[],st=>st
 |r :: rs,st=>gf z rs (cP (z r.1) r.2 st)
def j7{α:Type}(z:List Nat->List Nat->List α):List Row->List α->List α
 |[],_=>[]
 |r :: rs,st=>eX r.2 st++j7 z rs (cP (z r.1) r.2 st)
theorem uY{α:Type}{pu:List Nat->List Nat->List α}(r:Row):∀(p:List Row) (st:List α),gf pu (p++[r]) st=cP (pu r.1) r.2 (gf pu p st)
 |[],st=>rfl
 |q :: p,st=>uY r p _
theorem uZ{α:Type}{z:List Nat->List Nat->List α}(r:Row):∀(p:List Row) (st:List α),j7 z (p++[r]) st=j7 z p st++eX r.2 (gf z p st)
 |[],st=>by simp[j7,gf]
 |q :: p,st=>by simp only[aaW,j7,gf,uZ r p,aaX]
theorem tY{α β:Type}{z:List Nat->List Nat->List α}(f:α->β):∀(p:List Row) (st:List α),(gf z p st).map f=gf (λo s=>(z o s).map f) p (st.map f)
 |[],st=>rfl
 |q :: p,st=>by simp only[gf,tY f p,tW f]
theorem tZ{α:Type}{pu:List Nat->List Nat->List α}(z:∀o s,(pu o s).length=s.length):∀(p:List Row) (st:List α) (t:Θ),st.length=t.length->(gf pu p st).length=(dN t (bM p)).length
 |[],st,t,h=>h
 |r :: p,st,t,h=>tZ z p _ _ (qy (z r.1) r.2 st t h)
theorem wz{α:Type}{pu:List Nat->List Nat->List α}:∀(p:List Row) (st:List α),(j7 pu p st).length<=dW (bM p)
 |[],st=>by simp[j7]
 |r :: p,st=>by
  have a:=nT r.2 st;have b:=wz (pu:=pu) p (cP (pu r.1) r.2 st);have c:dW (bM (r :: p))=tot r.2+dW (bM p):=by simp[dW,bM]
  simp only[j7,aaE];lia
abbrev Ow:=Option Θ
def Ow.v:Ow->V
 |none=>.aN
 |some s=>.str s
def gW(o s:Θ):List Ow:=s.map λ_=>some o
def iP(t:Θ):List Ow:=t.map λ_=>none
def EG(a b:Nat):Pv.bO .add (.int (a:Int)) (.int (b:Int))=some (.int ((a+b:Nat):Int)):=by rw[cj];congr 2
section
variable{F:List Fn}{aC cS iF jM i w n:Nat}
def uv(st:List Ow)(o:Θ)(c p:Kk)(x y:T2):Fr:=[some (.val (.lst (st.map Ow.v))),some (.val (.str o)),some (.val (aT c)),some (.own ((cP (gW o) p st).map Ow.v)),some (.own ((eX p st).map Ow.v)),some (.val (.int (aE p:Nat))),x,y,none]
def Kd(Z:F[aC]?=some dj)(hi:F[i]?=some (iC aC)){st:List Ow}{o:Θ}{c:Kk}{t:Θ}(h:aS c t=true)(hst:st.length=t.length)(b1:tot c<=900)(b2:t.length<=900):
  run F w (n+6) i [.val (.lst (st.map Ow.v)),.val (.str o),.val (aT c)]=some (.tup [.lst ((cP (gW o) c st).map Ow.v),.lst ((eX c st).map Ow.v)],[]):=by
 have K:=iH h;have I:∀s:Θ,(gW o s).length=s.length:=λs=>by simp[gW]
 refine bK hi rfl ?_;refine ai (gQ (l:=[]) (fB ay lz) rfl rfl ?_);refine ai (gQ (l:=[]) (fB ay lz) rfl rfl ?_);refine ai (aK (aG rfl) rfl rfl ?_);refine ai (kC (vs:=c.map Pt.v) (ef (er rfl) rfl) ?_);refine gn (e:=Pt.v) (λp l fr=>p++l=c/\∃x y,vo x/\vo y/\fr=uv st o c p x y) (λp q l fr ⟨a,x,y,z,g,f⟩=>?_) (λp fr ⟨a,x,y,z,g,f⟩=>?_) c [] _ ⟨rfl,none,none,.none,.none,rfl⟩
 .subst f;have r:(p++[q])++l=c:=by simpa using a
  have L:aE p+(aE [q]+aE l)=aE c:=by rw[<-r,iG,iG];lia
  have H:tot p+(q.n+tot l)=tot c:=by rw[<-a,eU,bL]
  have M:tot (p++[q])=tot p+q.n:=by rw[eU];simp[tot]
  have lt:=sN I p st;have N:=nT p st;have sz:=λfr=>ig (fr:=fr) (kU (F:=F) (i:=aC) (w:=w) (n:=n+4) Z q (by lia));have A:=pO (pu:=gW o) [q] p st;have B:=pP [q] p st;have C:=iG p [q];refine di (af:=uv st o c p (some (.val q.v)) y) (bind1 rfl z) ?_;cases q with
  |put s=>
   have j:aE (p++[.put s])=aE p:=by rw[C];simp[aE,tot,gu]
   have mk:=cW (x:=s.map λ_=>V.str o) (bE (by simp[Pt.n]at H ⊢;lia));have J:cL (g9 (run F w (n+5)) (.v 1) (.one 8) .no (uv st o c p (some (.val (Pt.put s).v)) y)) (s.map λd=>V.str [d])=some (s.map λ_=>V.str o):=gr (λd=>V.str [d]) (λ_=>V.str o) s λd _=>kD rfl (au rfl);refine ai (aM (b:=true) (aF rfl (bT (cG (au rfl) (aG rfl) rfl) (aG rfl) iK) rfl) (λ_=>?_) λh=>absurd h (by decide));refine ai (eK (qj rfl rfl (aq (jc (ef (cG (k:=true) (au rfl) (aG rfl) rfl) rfl) rfl J mk) ay) (mS (by simp[Pt.n]at H ⊢;lia))) ?_);refine ai ⟨_,_,Td,?_⟩;show(p++[Pt.put s])++l=c/\∃x y,vo x/\vo y/\_=uv st o c (p++[Pt.put s]) x y;refine⟨r,some (.val (Pt.put s).v),y,.val,g,?_⟩;unfold uv;rw[A,B,j];simp[cP,eX,gW,Ow.v]
  |keep k=>
   have j:aE (p++[.keep k])=aE p+k:=by rw[C];simp[aE,tot,gu,Pt.n]
   have G:fQ (.lst (st.map Ow.v)) (some (aE p:Int)) (some ((aE p+k:Nat):Int))=some (.lst (((st.drop (aE p)).take k).map Ow.v)):=by
    have e:cut (st.map Ow.v) (some (aE p:Int)) (some ((aE p+k:Nat):Int))=((st.map Ow.v).drop (aE p)).take k:=lT _ (aE p) k;show eV (cut (st.map Ow.v) _ _)=_;rw[e,<-ab4,<-ab3];exact cW (bE (by simp;lia))
   refine je (aF rfl (bT (cG (au rfl) (aG rfl) rfl) (aG rfl) iK) rfl) ?_;refine ai (aK (ao:=uv st o c p (some (.val (Pt.keep k).v)) (some (.val (.lst (((st.drop (aE p)).take k).map Ow.v))))) (oU (au rfl) (fW (au rfl)) (fW (aU (au rfl) (cR (aR rfl (au rfl) aO) (sz _)) (EG (aE p) k))) G) rfl (bZ rfl g) ?_);refine ai (aK (aU (au rfl) (cR (aR rfl (au rfl) aO) (sz _)) (EG (aE p) k)) rfl rfl ?_);refine ai (aM (b:=true) (aF rfl (bT (cG (au rfl) (aG rfl) rfl) (aG rfl) iK) rfl) (λ_=>?_) λh=>absurd h (by decide));refine ai (eK (qj rfl rfl (aq (au rfl) ay) (mS (by simp;lia))) (aD (aD ?_)));rw[dZ];refine⟨r,some (.val (Pt.keep k).v),some (.val (.lst (((st.drop (aE p)).take k).map Ow.v))),.val,.val,?_⟩;unfold uv;rw[A,B,j,aaG];simp only[cP,eX,aaJ];rfl
  |drop s=>
   have j:aE (p++[.drop s])=aE p+s.length:=by rw[C];simp[aE,tot,gu,Pt.n]
   have G:fQ (.lst (st.map Ow.v)) (some (aE p:Int)) (some ((aE p+s.length:Nat):Int))=some (.lst (((st.drop (aE p)).take s.length).map Ow.v)):=by
    have e:cut (st.map Ow.v) (some (aE p:Int)) (some ((aE p+s.length:Nat):Int))=((st.map Ow.v).drop (aE p)).take s.length:=lT _ (aE p) s.length;show eV (cut (st.map Ow.v) _ _)=_;rw[e,<-ab4,<-ab3];exact cW (bE (by simp;lia))
   refine je (aF rfl (bT (cG (au rfl) (aG rfl) rfl) (aG rfl) iK) rfl) ?_;refine ai (aK (ao:=uv st o c p (some (.val (Pt.drop s).v)) (some (.val (.lst (((st.drop (aE p)).take s.length).map Ow.v))))) (oU (au rfl) (fW (au rfl)) (fW (aU (au rfl) (cR (aR rfl (au rfl) aO) (sz _)) (EG (aE p) s.length))) G) rfl (bZ rfl g) ?_);refine ai (aK (aU (au rfl) (cR (aR rfl (au rfl) aO) (sz _)) (EG (aE p) s.length)) rfl rfl ?_);refine ai (aM (b:=false) (aF rfl (bT (cG (au rfl) (aG rfl) rfl) (aG rfl) iK) rfl) (zS ·) λ_=>?_);refine ai (eK (qj rfl rfl (aq (au rfl) ay) (mS (by simp;lia))) (aD (aD ?_)));rw[dZ];refine⟨r,some (.val (Pt.drop s).v),some (.val (.lst (((st.drop (aE p)).take s.length).map Ow.v))),.val,.val,?_⟩;unfold uv;rw[A,B,j,aaG];simp only[cP,eX,aaJ,aaG,ac5];rfl
 .subst f;rw[aaJ]at a;subst a;have sh:fK (uv st o p p x y)=[some (.val (.lst (st.map Ow.v))),some (.val (.str o)),some (.val (aT p)),some (.val (.lst ((cP (gW o) p st).map Ow.v))),some (.val (.lst ((eX p st).map Ow.v))),some (.val (.int (aE p:Nat))),x,y,none]:=by
   show [_,_,_,_,_,_,x.map Sl.dz,y.map Sl.dz,_]=_;rw[dF z,dF g];rfl
  refine ai (bJ (af:=[some (.val (.lst (st.map Ow.v))),some (.val (.str o)),some (.val (aT p)),some (.val (.lst ((cP (gW o) p st).map Ow.v))),some (.val (.lst ((eX p st).map Ow.v))),some (.val (.int (aE p:Nat))),x,y,none]) ?_ ⟨rfl,rfl⟩);rw[sh];exact cF (aq (au rfl) (aq (au rfl) ay)) eH
def Bo(t:Θ)(rs p:List Row)(x y z:T2):Fr:=[some (.val (.str t)),some (.val (.lst (rs.map aZ))),some (.val (.str (dN t (bM p)))),some (.val (.lst ((gf gW p (iP t)).map Ow.v))),some (.own ((j7 gW p (iP t)).map Ow.v)),x,y,z,none]
variable(hs:F[aC]?=some dj)(hf:F[cS]?=some (kG aC))(hd:F[iF]?=some (lS cS))(ho:F[jM]?=some (iC aC))(hi:F[i]?=some (qw iF jM))
include hs hf hd ho
theorem OV{t:Θ}{rs p:List Row}{r:Row}{x y z:T2}{Q:Fl->Fr->Prop}(h1:aS r.2 (dN t (bM p))=true)(h2:r.2.length<=900)(h3:tot r.2<=900)(I:(dN t (bM p)).length<=900)(h5:dW (bM p)+tot r.2<=900)(Z:vo x)(hy:vo y)(hz:vo z)(q:∀x y z,vo x->vo y->vo z->Q .nx (Bo t rs (p++[r]) x y z)):Wp (turnF (run F w (n+6)) w (.many [5,6]) (wu iF jM) (aZ r) (Bo t rs p x y z)) Q:=by
 have D:=λfr=>call2 (fr:=fr) (A6 (F:=F) (aC:=aC) (cS:=cS) (i:=iF) (w:=w) (n:=n+3) hs hf hd r.2 (dN t (bM p)) (by lia) (by lia) (by lia) h1);have a:=tZ (pu:=gW) (λo s=>by simp[gW]) p (iP t) t (by simp[iP]);have gl:=wz (pu:=gW) p (iP t);have b:=nT r.2 (gf gW p (iP t));have ro:=λfr=>iR (fr:=fr) (Kd (w:=w) (n:=n) (o:=r.1) hs ho h1 a (by lia) I);refine di (af:=Bo t rs p (some (.val (.str r.1))) (some (.val (aT r.2))) z) (ir rfl Z rfl hy) ?_;refine ai (aK (cR (aR rfl (au rfl) (aR rfl (au rfl) aO)) (D _)) rfl rfl ?_);refine ai (aK (cR (aR rfl (au rfl) (aR rfl (au rfl) (aR rfl (au rfl) aO))) (ro _)) rfl (bZ rfl hz) ?_);refine ai (aK (cG (au rfl) (aG rfl) rfl) rfl rfl ?_);refine ai (eK (qj rfl rfl (aq (cG (au rfl) (aG rfl) rfl) ay) (mS (by simp;lia))) (aD ?_));have:=q (some (.val (.str r.1))) (some (.val (aT r.2))) _ .val .val (.val (v:=.tup [.lst ((cP (gW r.1) r.2 (gf gW p (iP t))).map Ow.v),.lst ((eX r.2 (gf gW p (iP t))).map Ow.v)]));unfold Bo at this;rw[jW,uY,uZ,aaG]at this;exact this
include hi
theorem EH{t:Θ}{rs:List Row}(R:wm t rs):run F w (n+7) i [.val (.str t),.val (.lst (rs.map aZ))]=some (.tup [.lst ((gf gW rs (iP t)).map Ow.v),.lst ((j7 gW rs (iP t)).map Ow.v)],[]):=by
 have B:=R.tt;have mk:=cW (x:=t.map λ_=>V.aN) (bE (by simp;lia));refine bK hi rfl ?_;refine ai (aK (au rfl) rfl rfl ?_);refine ai (aK (jc (ef (er rfl) rfl) rfl (gr (λd=>V.str [d]) (λ_=>V.aN) t λd _=>kD rfl (aG rfl)) mk) rfl rfl ?_);refine ai (gQ (l:=[]) (fB ay lz) rfl rfl ?_);refine ai (kC (vs:=rs.map aZ) (ef (er rfl) rfl) ?_);refine gn (e:=aZ) (λp l g=>p++l=rs/\∃x y z,vo x/\vo y/\vo z/\g=Bo t rs p x y z) (λp r l g ⟨a,x,y,z,c,f,hz,b⟩=>?_) (λp g ⟨a,x,y,z,c,f,hz,b⟩=>?_) rs [] _ ⟨rfl,none,none,none,.none,.none,.none,by unfold Bo;simp[gf,j7,iP,Ow.v,dN,bM];rfl⟩
 .subst b;obtain⟨h,j,k,q,A⟩:=R.at a;refine OV hs hf hd ho h j k q A c f hz λx y z c f hz=>?_;rw[dZ];exact⟨by simpa using a,x,y,z,c,f,hz,rfl⟩
 .subst b;rw[aaJ]at a;subst a;have sh:fK (Bo t p p x y z)=[some (.val (.str t)),some (.val (.lst (p.map aZ))),some (.val (.str (dN t (bM p)))),some (.val (.lst ((gf gW p (iP t)).map Ow.v))),some (.val (.lst ((j7 gW p (iP t)).map Ow.v))),x,y,z,none]:=by
   show [_,_,_,_,_,x.map Sl.dz,y.map Sl.dz,z.map Sl.dz,_]=_;rw[dF c,dF f,dF hz];rfl
  refine ai (bJ (af:=[some (.val (.str t)),some (.val (.lst (p.map aZ))),some (.val (.str (dN t (bM p)))),some (.val (.lst ((gf gW p (iP t)).map Ow.v))),some (.val (.lst ((j7 gW p (iP t)).map Ow.v))),x,y,z,none]) ?_ ⟨rfl,rfl⟩);rw[sh];exact cF (aq (au rfl) (aq (au rfl) ay)) eH
end
open Ev (bN bA TY BI ME)
abbrev yU:Ss:=(.cons (.iff (.cmp .eq (.v 8) (.c (.str [112,117,116]))) (.cons (.set 7 (.bin .add (.v 7) (.comp (.tup (.cons (.v 12) (.cons (.v 4) .nil))) (.one 12) (.seq (.v 9)) .no))) .nil) (.cons (.set 10 (.fV (.cmp .eq (.v 8) (.c (.str [107,101,101,112]))) (.v 9) (.bi .len (.cons (.v 9) .nil)))) (.cons (.iff (.cmp .eq (.v 8) (.c (.str [107,101,101,112]))) (.cons (.set 7 (.bin .add (.v 7) (.sl (.v 2) (.yes (.v 6)) (.yes (.bin .add (.v 6) (.v 10)))))) .nil) (.cons (.set 3 (.bin .add (.v 3) (.sl (.v 2) (.yes (.v 6)) (.yes (.bin .add (.v 6) (.v 10)))))) .nil)) (.cons (.set 6 (.bin .add (.v 6) (.v 10))) .nil)))) .nil)
abbrev yV:Ss:=(.cons (.set 6 (.c (.int 0))) (.cons (.set 7 (.lst .nil)) (.cons (.for (.many [8,9]) (.seq (.v 5)) yU) (.cons (.set 2 (.v 7)) .nil))))
abbrev xW:Fn:=⟨2,19,(.cons (.set 2 (.comp (.tup (.cons (.v 11) (.cons (.c (.aN)) .nil))) (.one 11) (.seq (.v 0)) .no)) (.cons (.set 3 (.lst .nil)) (.cons (.for (.many [4,5]) (.seq (.v 1)) yV) (.cons (.ret (.tup (.cons (.comp (.v 14) (.many [13,14]) (.seq (.v 2)) .no) (.cons (.comp (.v 16) (.many [15,16]) (.seq (.v 3)) .no) (.cons (.me .join (.c (.str [])) (.cons (.comp (.v 17) (.many [17,18]) (.seq (.v 2)) .no) .nil)) .nil))))) .nil))))⟩
section
variable{F:List Fn}{w n i:Nat}
abbrev Mk:=Nat×Ow
def dR(m:Mk):V:=.tup [.str [m.1],m.2.v]
def dO(o s:Θ):List Mk:=s.map λd=>(d,some o)
def m0(t:Θ):List Mk:=t.map λd=>(d,none)
def pQ(t:Θ)(rs:List Row)(h:List Mk)(o:Θ)(c p:Kk)(I Z:T2)(x y z:Option V):Fr:=[some (.val (.str t)),some (.val (.lst (rs.map aZ))),some (.val (.lst (h.map dR))),I,some (.val (.str o)),some (.val (aT c)),some (.val (.int (aE p:Nat))),Z,x.map .val,y.map .val,z.map .val,none,none,none,none,none,none,none,none]
def vm:∀{x:Option V},vo (x.map .val)
 |none=>.none
 |some _=>.val
def yW(t:Θ)(rs p:List Row)(I:T2)(z:Nat->Option V):Fr:=[some (.val (.str t)),some (.val (.lst (rs.map aZ))),some (.val (.lst ((gf dO p (m0 t)).map dR))),I,(z 4).map .val,(z 5).map .val,(z 6).map .val,(z 7).map .val,(z 8).map .val,(z 9).map .val,(z 10).map .val,none,none,none,none,none,none,none,none]
def T8(h:List Mk)(b k:Nat)(z:k<=10000):fQ (.lst (h.map dR)) (some (b:Int)) (some ((b+k:Nat):Int))=some (.lst (((h.drop b).take k).map dR)):=by
 have e:cut (h.map dR) (some (b:Int)) (some ((b+k:Nat):Int))=((h.map dR).drop b).take k:=lT _ b k;show eV (cut (h.map dR) _ _)=_;rw[e,<-ab4,<-ab3];exact cW (bE (by simp;lia))
def OW{t:Θ}{rs:List Row}{h g:List Mk}{o:Θ}{c p l:Kk}{q:Pt}{Z o7:T2}{x y z:Option V}{Q:Fl->Fr->Prop}(hpl:p++q :: l=c)(hg:g.length+tot c<=2000)(h3:lv Z ((g++eX p h).map dR))(h7:lv o7 ((cP (dO o) p h).map dR))(k:∀Z o7 x y z,lv Z ((g++eX (p++[q]) h).map dR)->lv o7 ((cP (dO o) (p++[q]) h).map dR)->Q .nx (pQ t rs h o c (p++[q]) Z o7 x y z)):Wp (turnF (run F w n) w (.many [8,9]) yU q.v (pQ t rs h o c p Z o7 x y z)) Q:=by
 have a:tot p+(q.n+tot l)=tot c:=by rw[<-hpl,eU,bL]
 have lt:=sN (pu:=dO o) (λs=>by simp[dO]) p h;have I:=nT p h;have r:=pO (pu:=dO o) [q] p h;have A:=pP [q] p h;have B:=iG p [q];cases q with
 |put s=>
  have e:aE (p++[.put s])=aE p:=by rw[B];simp[aE,tot,gu]
  have mk:=cW (x:=(dO o s).map dR) (bE (by simp[Pt.n,dO]at a ⊢;lia));have j:=kP (x:=(cP (dO o) p h).map dR) (y:=(dO o s).map dR) (by simp[dO,Pt.n]at a ⊢;lia);have G:cL (g9 (run F w n) (.tup (.cons (.v 12) (.cons (.v 4) .nil))) (.one 12) .no (pQ t rs h o c p Z o7 (some (.str [112,117,116])) (some (.str s)) z)) (s.map λd=>V.str [d])=some ((dO o s).map dR):=by
   have:=gr (f:=g9 (run F w n) (.tup (.cons (.v 12) (.cons (.v 4) .nil))) (.one 12) .no (pQ t rs h o c p Z o7 (some (.str [112,117,116])) (some (.str s)) z)) (λd=>V.str [d]) (λd=>dR (d,some o)) s λd _=>kD rfl (cF (aq (au rfl) (aq (au rfl) ay)) eH);rw[this];simp[dO]
  refine di (af:=pQ t rs h o c p Z o7 (some (.str [112,117,116])) (some (.str s)) z) (ir rfl vm rfl vm) ?_;refine ai (aM (b:=true) (fL rfl rfl iK rfl) (λ_=>?_) λh=>absurd h (by decide));refine ai (aK (aU (nM rfl rfl h7) (jc (ef (er rfl) rfl) rfl G mk) j) rfl (sy rfl h7) (aD (aD ?_)));have:=k Z (some (.val (.lst ((cP (dO o) p h).map dR++(dO o s).map dR)))) (some (.str [112,117,116])) (some (.str s)) z (by rw[A];simpa[eX]using h3) (by rw[r,aaG];simp only[cP,aaJ];exact .val);unfold pQ at this ⊢;rw[e]at this;exact this
 |keep m=>
  have e:aE (p++[.keep m])=aE p+m:=by rw[B];simp[aE,tot,gu,Pt.n]
  have j:=kP (x:=(cP (dO o) p h).map dR) (y:=((h.drop (aE p)).take m).map dR) (by simp[Pt.n]at a ⊢;lia);have C:=T8 h (aE p) m (by simp[Pt.n]at a;lia);refine di (af:=pQ t rs h o c p Z o7 (some (.str [107,101,101,112])) (some (.int (m:Int))) z) (ir rfl vm rfl vm) ?_;refine ai (aM (b:=false) (fL rfl rfl iK rfl) (zS ·) λ_=>?_);refine ai (aK (ao:=pQ t rs h o c p Z o7 (some (.str [107,101,101,112])) (some (.int (m:Int))) (some (.int (m:Int)))) (fC (b:=true) (fL rfl rfl iK rfl) (λ_=>au rfl) λh=>absurd h (by decide)) rfl (bZ rfl vm) ?_);refine ai (aM (b:=true) (fL rfl rfl iK rfl) (λ_=>?_) λh=>absurd h (by decide));refine ai (aK (aU (nM rfl rfl h7) (oU (au rfl) (fW (au rfl)) (fW (aU (au rfl) (au rfl) (HK (aE p) m))) C) j) rfl (sy rfl h7) (aD ?_));refine ai (aK (aU (au rfl) (au rfl) (HK (aE p) m)) rfl rfl (aD (aD ?_)));have:=k Z (some (.val (.lst ((cP (dO o) p h).map dR++((h.drop (aE p)).take m).map dR)))) (some (.str [107,101,101,112])) (some (.int (m:Int))) (some (.int (m:Int))) (by rw[A];simpa[eX]using h3) (by rw[r,aaG];simp only[cP,aaJ];exact .val);unfold pQ at this ⊢;rw[e]at this;exact this
 |drop s=>
  have e:aE (p++[.drop s])=aE p+s.length:=by rw[B];simp[aE,tot,gu,Pt.n]
  have j:=kP (x:=(g++eX p h).map dR) (y:=((h.drop (aE p)).take s.length).map dR) (by simp[Pt.n]at a ⊢;lia);have C:=T8 h (aE p) s.length (by simp[Pt.n]at a;lia);have H:cZ .len [.str s]=some (.int (s.length:Nat)):=abI (by simp[Pt.n]at a;lia);refine di (af:=pQ t rs h o c p Z o7 (some (.str [100,114,111,112])) (some (.str s)) z) (ir rfl vm rfl vm) ?_;refine ai (aM (b:=false) (fL rfl rfl iK rfl) (zS ·) λ_=>?_);refine ai (aK (ao:=pQ t rs h o c p Z o7 (some (.str [100,114,111,112])) (some (.str s)) (some (.int (s.length:Nat)))) (fC (b:=false) (fL rfl rfl iK rfl) (zS ·) λ_=>eF (aq (au rfl) ay) H) rfl (bZ rfl vm) ?_);refine ai (aM (b:=false) (fL rfl rfl iK rfl) (zS ·) λ_=>?_);refine ai (aK (aU (nM rfl rfl h3) (oU (au rfl) (fW (au rfl)) (fW (aU (au rfl) (au rfl) (HK (aE p) s.length))) C) j) rfl (sy rfl h3) (aD ?_));refine ai (aK (aU (au rfl) (au rfl) (HK (aE p) s.length)) rfl rfl (aD (aD ?_)));have:=k (some (.val (.lst ((g++eX p h).map dR++((h.drop (aE p)).take s.length).map dR)))) o7 (some (.str [100,114,111,112])) (some (.str s)) (some (.int (s.length:Nat))) (by rw[A,<-aaX,aaG (l₁:=g++eX p h)];simp only[eX,aaJ];exact .val) (by rw[r];simpa[cP]using h7);unfold pQ at this ⊢;rw[e]at this;exact this
def Ke{t:Θ}{rs p:List Row}{r:Row}{g:List Mk}{I:T2}{z:Nat->Option V}{Q:Fl->Fr->Prop}(hg:g.length+tot r.2<=2000)(Z:lv I (g.map dR))(k:∀I z,lv I ((g++eX r.2 (gf dO p (m0 t))).map dR)->Q .nx (yW t rs (p++[r]) I z)):Wp (turnF (run F w n) w (.many [4,5]) yV (aZ r) (yW t rs p I z)) Q:=by
 have f:=uY (pu:=dO) r p (m0 t);unfold yW at k ⊢;rw[f]at k;generalize gf dO p (m0 t)=h at k
 refine di (af:=[some (.val (.str t)),some (.val (.lst (rs.map aZ))),some (.val (.lst (h.map dR))),I,some (.val (.str r.1)),some (.val (aT r.2)),(z 6).map .val,(z 7).map .val,(z 8).map .val,(z 9).map .val,(z 10).map .val,none,none,none,none,none,none,none,none]) (ir rfl vm rfl vm) ?_;refine ai (aK (aG rfl) rfl (bZ rfl vm) ?_);refine ai (gQ (l:=[]) (fB ay lz) rfl (bZ rfl vm) ?_);refine ai (kC (vs:=r.2.map Pt.v) (ef (er rfl) rfl) ?_);refine gn (e:=Pt.v) (λp l d=>p++l=r.2/\∃I b x y z,lv I ((g++eX p h).map dR)/\lv b ((cP (dO r.1) p h).map dR)/\d=pQ t rs h r.1 r.2 p I b x y z) (λp q l d e=>?_) (λp d e=>?_) r.2 [] _ ⟨rfl,I,some (.own []),z 8,z 9,z 10,by simpa[eX]using Z,.own,rfl⟩
 .obtain⟨a,I,b,x,y,z,Z,c,rfl⟩:=e;refine OW a hg Z c λI b x y z Z c=>?_;rw[dZ];exact⟨by simpa using a,I,b,x,y,z,Z,c,rfl⟩
 .obtain⟨a,I,b,x,y,z,Z,c,rfl⟩:=e;rw[aaJ]at a;subst a;refine ai (Tg (j:=7) rfl c rfl (aD ?_));exact k I (λi=>[some (.str r.1),some (aT r.2),some (.int (aE r.2:Nat)),some (.lst ((cP (dO r.1) r.2 h).map dR)),x,y,z].getD (i - 4) none) Z
def yX(Z:F[i]?=some xW){t:Θ}{rs:List Row}(R:wm t rs):run F w (n+1) i [.val (.str t),.val (.lst (rs.map aZ))]=some (.tup [.lst ((gf dO rs (m0 t)).map λm=>m.2.v),.lst ((j7 dO rs (m0 t)).map λm=>m.2.v),.str ((gf dO rs (m0 t)).map (·.1))],[]):=by
 have C:=R.tt;have mk:=cW (x:=(m0 t).map dR) (bE (by simp[m0];lia));have k:∀h:Fr,h=[some (.val (.str t)),some (.val (.lst (rs.map aZ))),none,none,none,none,none,none,none,none,none,none,none,none,none,none,none,none,none]->cL (g9 (run F w n) (.tup (.cons (.v 11) (.cons (.c (.aN)) .nil))) (.one 11) .no h) (t.map λd=>V.str [d])=some ((m0 t).map dR):=λh e=>by
  subst e;have:=gr (f:=g9 (run F w n) (.tup (.cons (.v 11) (.cons (.c (.aN)) .nil))) (.one 11) .no [some (.val (.str t)),some (.val (.lst (rs.map aZ))),none,none,none,none,none,none,none,none,none,none,none,none,none,none,none,none,none]) (λd=>V.str [d]) (λd=>dR (d,none)) t λd _=>kD rfl (cF (aq (au rfl) (aq (aG rfl) ay)) eH);rw[this];simp[m0]
 have G:=tZ (pu:=dO) (λo s=>by simp[dO]) rs (m0 t) t (by simp[m0]);have gl:=wz (pu:=dO) rs (m0 t);have tb:=zA (bM rs) t;refine bK (fn:=xW) Z rfl ?_;refine ai (aK (jc (ef (er rfl) rfl) rfl (k _ rfl) mk) rfl rfl ?_);refine ai (gQ (l:=[]) (fB ay lz) rfl rfl ?_);refine ai (kC (vs:=rs.map aZ) (ef (er rfl) rfl) ?_);refine gn (e:=aZ) (λp l h=>p++l=rs/\∃b z,lv b ((j7 dO p (m0 t)).map dR)/\h=yW t rs p b z) (λp r l h e=>?_) (λp h e=>?_) rs [] _ ⟨rfl,some (.own []),λ_=>none,.own,rfl⟩
 .obtain⟨a,b,z,j,rfl⟩:=e;obtain⟨I,J,K,L,M⟩:=R.at a;have N:=wz (pu:=dO) p (m0 t);refine Ke (g:=j7 dO p (m0 t)) (by lia) j λb z j=>?_;rw[dZ];exact⟨by simpa using a,b,z,by rw[uZ];exact j,rfl⟩
 .obtain⟨a,b,z,j,rfl⟩:=e;rw[aaJ]at a;subst a;have sh:fK (yW t p p b z)=yW t p p (some (.val (.lst ((j7 dO p (m0 t)).map dR)))) z:=by
   show [_,_,_,b.map Sl.dz,_,_,_,_,_,_,_,_,_,_,_,_,_,_,_]=_;simp only[Oz j,dF vm];rfl
  refine ai (bJ (af:=yW t p p (some (.val (.lst ((j7 dO p (m0 t)).map dR)))) z) (v:=.tup [.lst ((gf dO p (m0 t)).map λm=>m.2.v),.lst ((j7 dO p (m0 t)).map λm=>m.2.v),.str ((gf dO p (m0 t)).map (·.1))]) ?_ ⟨rfl,rfl⟩);rw[sh];unfold yW;clear sh j;generalize gf dO p (m0 t)=H at *
  generalize j7 dO p (m0 t)=Gn at *
  have q:eV (H.map λm=>m.2.v)=some _:=cW (bE (by simp;lia));have y:eV (Gn.map λm=>m.2.v)=some _:=cW (bE (by simp;lia));have A:eV (H.map λm=>V.str [m.1])=some _:=cW (bE (by simp;lia));have B:gM .join (.str []) [.lst (H.map λm=>V.str [m.1])]=some (.str (H.map (·.1))):=by
   show((vG _).bind strsOf).bind _=_;rw[N3,ac9,qi (λm:Mk=>[m.1]),ac9,OL ?_,rW,oV];have:(H.map λm:Mk=>[m.1]).map (·.length)=H.map λ_=>1:=by simp
   rw[this];have e:∀l:List Mk,(l.map λ_=>1).sum=l.length:=λl=>by induction l<;>simp_all<;>lia
   rw[e];exact bE (by simp;lia)
  refine cF (aq (jc (ef (er rfl) rfl) rfl (gr dR (λm=>m.2.v) H λm _=>kD rfl (au rfl)) q) (aq (jc (ef (er rfl) rfl) rfl (gr dR (λm=>m.2.v) Gn λm _=>kD rfl (au rfl)) y) (aq (El rfl (aG rfl) (aq (jc (ef (er rfl) rfl) rfl (gr dR (λm=>V.str [m.1]) H λm _=>kD rfl (au rfl)) A) ay) B) ay))) Ed
end
def EI{P:aJ}{X:eE}{w c:Nat}{fr af:Fr}{e:E}{sa sb:Ss}(h:bB P e fr=.ok true af)(h2:xss P X w sa af=some c):xs P X w (.iff e sa sb) fr=some c:=L1 h (by rw[OL rfl];exact h2)
abbrev qz(z I Z p:Nat):Fn:=⟨2,2,.cons (.iff (.orr (.cmp .lt (.v 1) (.c (.int 0))) (.cmp .ge (.v 1) (.bi .len (.cons (.fq aP z (.cons (.v 0) .nil)) .nil)))) (.cons (.fP p) .nil) .nil) (.cons (.ret (.ix (.cl I (.cons (.fld aP 0 0) (.cons (.fq aP Z (.cons (.v 0) .nil)) .nil))) (.v 1))) .nil)⟩
def jC(t:Θ)(rs:List Row):T0:=(gf gW rs (iP t)).map Ow.v
section
variable{F:List Fn}{w n i p iT iE iS iD iO aC cS iF jM jX:Nat}{t:Θ}{S L:List Lp}{s:Lp}{x:Sl}
def Kg(Z:F[iT]?=some j6)(I:F[aC]?=some dj)(Gp:F[cS]?=some (kG aC))(hD:F[iD]?=some (lS cS))(h:F[i]?=some (uX iD iT iS iE)){o:Θ}{c:Kk}(hf:aS c (bP t S)=false)(b1:tot c<=2000)(b3:(bP t S).length<=2000)(z:gD aP (lO t S L) x):
  dM F w (n+4) i [x,.val (.str o),.val (aT c)]=some 0:=by
 have a:=HN (F:=F) (w:=w) (n:=n) I Gp hD c (bP t S) (by lia) (by lia) hf;have a:=λfr=>G6 (X:=dM F w (n+3)) (fr:=fr) (vs:=[aT c,.str (bP t S)]) a;exact vY h rfl (kE (fj F w (n+3)) (VQ (ZE (aR rfl (au rfl) (aR rfl (ju z.i (fF (z.v rfl) aO) (oH rfl z.l (pN (w:=w) (n:=n+2) Z z) rfl)) aO)) (a _))))
def OY(h:F[i]?=some (xU p))(I:p<9)(z:gD aP (lO t [] L) x):dM F w (n+1) i [x]=some p:=
 vY h rfl (kE (fj F w n) (EI (qk (b:=false) (aF rfl (kR z.i ay z.s qP (xV [])) rfl)) (kE (fj F w n) (zy I))))
def Kh(h:F[i]?=some (uW p))(I:p<9)(z:gD aP (lO t S []) x):dM F w (n+1) i [x]=some p:=
 vY h rfl (kE (fj F w n) (EI (qk (b:=false) (aF rfl (kR z.i ay z.s C4 (xV [])) rfl)) (kE (fj F w n) (zy I))))
def T9(I:F[iT]?=some j6)(h:F[i]?=some (qz iT iO iE p))(Z:p<9){k:Int}(hk:k<0\/((bP t S).length:Int)<=k)(hl:(bP t S).length<=2000)(z:gD aP (lO t S L) x):dM F w (n+2) i [x,.val (.int k)]=some p:=by
 have d:cZ .len [.str (bP t S)]=some (.int ((bP t S).length:Nat)):=abI (by lia);refine vY h rfl (kE (fj F w (n+1)) (EI (af:=[some x,some (.val (.int k))]) ?_ (kE (fj F w (n+1)) (zy Z))));have a:bB (run F w (n+1)) (.cmp .lt (.v 1) (.c (.int 0))) [some x,some (.val (.int k))]=.ok (decide (k<0)) [some x,some (.val (.int k))]:=fL rfl rfl xN rfl;by_cases b:k<0
 .rw[abn b]at a;exact AO a
 .rw[aaR b]at a;exact nK a (aF rfl (bT (au rfl) (eF (aq (ju z.i (fF (z.v rfl) aO) (oH (ao:=[some x,some (.val (.int k))]) rfl z.l (pN (w:=w) (n:=n) I z) (by rw[z.w];rfl))) ay) d) JK) (by show decide _=_;exact abn (hk.resolve_left b)))
def BD(I:F[aC]?=some dj)(Z:F[cS]?=some (kG aC))(hd:F[iF]?=some (lS cS))(ho:F[jM]?=some (iC aC))(hi:F[jX]?=some (qw iF jM))(z:F[iO]?=some (qx jX)){rs:List Row}(R:wm t rs):
  run F w (n+8) iO [.val (.str t),.val (.lst (rs.map aZ))]=some (.lst (jC t rs),[]):=
 bK (fn:=qx jX) z rfl (ai (bJ (cG (cR (aR rfl (au rfl) (aR rfl (au rfl) aO)) (call2 (EH I Z hd ho hi R))) (aG rfl) rfl) ⟨rfl,rfl⟩))
def Bp(t:Θ)(rs:List Row)(p:Nat):V:=(jC t rs).getD p .aN
def C6{rs:List Row}:(jC t rs).length=(dN t (bM rs)).length:=by
 unfold jC;rw[aaP,tZ (pu:=gW) (λo s=>by simp[gW]) rs (iP t) t (by simp[iP])]
def VY(Z:F[iT]?=some j6)(hE:F[iE]?=some mX)(hs:F[aC]?=some dj)(hf:F[cS]?=some (kG aC))(hd:F[iF]?=some (lS cS))(ho:F[jM]?=some (iC aC))(hi:F[jX]?=some (qw iF jM))(z:F[iO]?=some (qx jX))(h:F[i]?=some (qz iT iO iE p))(R:wm t (br S))(hl:(br S).length<=100)(I:dN t (bM (br S))=bP t S){k:Nat}(hk:k<(bP t S).length):run F w (n+9) i [.oq aP (lO t S L),.val (.int (k:Nat))]=some (Bp t (br S) k,[lO t S L]):=by
 have a:=pN (F:=F) (i:=iT) (w:=w) (n:=n+7) (t:=t) (S:=S) (L:=L) Z (.inr rfl);have b:=wo (F:=F) (i:=iE) (w:=w) (n:=n+7) (t:=t) (S:=S) (L:=L) hE (by lia) (.inr rfl);have d:=λfr=>call2 (fr:=fr) (BD (w:=w) (n:=n) hs hf hd ho hi z R);have g:(bP t S).length<=900:=by have:=zA (bM (br S)) t;have:=R.tt;rw[I]at *;lia
 have e:cZ .len [.str (bP t S)]=some (.int ((bP t S).length:Nat)):=abI (by lia);have j:(jC t (br S)).length=(bP t S).length:=by rw[C6,I]
 have f:fy (.lst (jC t (br S))) (.int (k:Int))=some (Bp t (br S) k):=by
  show bz (jC t (br S)) (k:Int)=_;unfold Bp;rw[mP,acV,VW (by lia)];rfl
 refine bK (fn:=qz iT iO iE p) h rfl ?_;refine je (af:=[some (.oq aP (lO t S L)),some (.val (.int (k:Nat)))]) (nK (aF rfl (bT (au rfl) (aG rfl) xN) (by rw[aaR (by lia)];rfl)) (aF rfl (bT (au rfl) (eF (aq (ju (gD.i (c:=aP) (l:=lO t S L) (.inr rfl)) (fF rfl aO) (oH rfl rfl a rfl)) ay) e) JK) (by rw[aaR (by lia)];rfl))) ?_;exact ai (bJ (cG (cR (aR rfl (L0 (v:=.str t) (gD.s (.inr rfl)) (by decide) rfl) (aR rfl (ju (gD.i (c:=aP) (l:=lO t S L) (.inr rfl)) (fF rfl aO) (oH rfl rfl b rfl)) aO)) (d _)) (au rfl) f) ⟨rfl,rfl⟩)
end
section
variable{F:List Fn}{w n g j c kk:Nat}{fr ao:Fr}{l:T0}{cl:Ev.Cl}{a:V}{x:Sl}{vs:T0}{es:Es}{Q:Fl->Fr->Prop}
def sets{α:Type}{l:List α}{a:α}(e:l[j]?=some a):l.set j a=l:=by
 apply abv;intro k;rw[List.getElem?_set];split
 .rename_i y;subst y;rw[OL (gL e).1,e]
 .rfl
def HQ(h:lent fr j=some x):args fr (.inl j :: vs.map .inr)=some (x :: vs.map .val):=by
 simp only[args,h,Option.bind,(oG (fr:=fr) vs).2,Option.map]
def Ua:(bC (.inl j :: vs.map (.inr:V->Nat ⊕ V))).Nodup:=by
 rw[bC,(oG (fr:=[]) vs).1];simp
def EJ{P:aJ}(h:lent fr j=some x)(h1:P g (x :: vs.map .val)=none):cz P g (.inl j :: vs.map .inr) fr=.bad:=by
 unfold cz;rw[OL Ua,HQ h];simp only[h1]
def wA(I:F.length<=1000){s:Sl}(e:fr[j]?=some (some s))(Z:s.lend=some x)(z:gD cl l x)(h0:eW (run F w n) es fr=.ok (.inl j :: vs.map .inr) fr)(h:∀x,gD cl l x->dM F w n g (x :: vs.map .val)=some c)(hc:c<kk)(hk:kk≠1001:=by decide)(hw:s.with l=s)(q:Q (.ret (.tup [.str [114,101,102,117,115,101,100],.int (c:Int)])) fr):Wp (ex (run F w n) w (.tr g kk es) fr) Q:=by
 have d:lent fr j=some x:=by unfold lent;rw[e];exact Z
 have b:gD cl l x.read:=by rcases z with rfl|rfl<;>exact .inr rfl
 have k:Sl.out x=some l:=by rcases z with rfl|rfl<;>rfl
 have p:=fj F w n g _ c (h x z);have f:run F w n (g+1000) (x :: vs.map .val)=some (.int (c:Int),(x :: vs.map Sl.val).filterMap Sl.out):=Tp I (by
  have e:(x :: vs.map Sl.val).map Sl.read=x.read :: vs.map Sl.val:=by
   rw[aaD,(uN (ds:=vs.map Sl.val) (by simp[Sl.jK])).1]
  rw[e];exact h _ b)
 have r:(x :: vs.map Sl.val).filterMap Sl.out=[l]:=by
  rw[aaS,k];show l :: _=_;rw[(uN (ds:=vs.map Sl.val) (by simp[Sl.jK])).2]
 rw[r]at f;refine Ot h0 (EJ d p) (ao:=fr) ?_ hc hk q;unfold cz;rw[OL Ua,HQ d];simp only[f];rw[bC,(oG (fr:=fr) vs).1];simp only[back,e,hw,sets e];rfl
end
end Pv
namespace Lw
abbrev f0:Ev.Fn:=Pv.dj
abbrev f1:Ev.Fn:=Pv.kT 0
abbrev f2:Ev.Fn:=Pv.mT 0
abbrev f3:Ev.Fn:=Pv.AQ 0
abbrev f4:Ev.Fn:=Pv.nL 5
abbrev f5:Ev.Fn:=Pv.gY
abbrev f6:Ev.Fn:=Pv.kG 0
abbrev f7:Ev.Fn:=Pv.lS 6
abbrev f8:Ev.Fn:=Pv.lU 2 1 4 0 9 10 9
abbrev f9:Ev.Fn:=Pv.tR 9
abbrev B5:Ev.Fn:=Pv.kX 11 0
abbrev LJ:Ev.Fn:=Pv.ji
abbrev LK:Ev.Fn:=Pv.qx 13
abbrev WX:Ev.Fn:=Pv.qw 7 14
abbrev WY:Ev.Fn:=Pv.iC 0
abbrev WZ:Ev.Fn:=Pv.kH 4 8 3
abbrev W0:Ev.Fn:=Pv.tN
abbrev W2:Ev.Fn:=Pv.rZ 16
abbrev W3:Ev.Fn:=Pv.fText 17
abbrev W4:Ev.Fn:=Pv.xP 17
abbrev W5:Ev.Fn:=Pv.Hv
abbrev W6:Ev.Fn:=Pv.j5 17 19
abbrev W7:Ev.Fn:=Pv.xW
abbrev Mp:Ev.Fn:=⟨4,5,(.cons (.iff (.cmp .eq (.v 1) (.c (.int 0))) (.cons (.exp (.fu Pv.aP .len 0 1 .nil)) (.cons (.tr 25 3 (.cons (.v 0) (.cons (.v 2) (.cons (.v 3) .nil)))) .nil)) (.cons (.iff (.cmp .eq (.v 1) (.c (.int 1))) (.cons (.exp (.fu Pv.aP .len 0 1 .nil)) (.cons (.tr 26 3 (.cons (.v 0) .nil)) .nil)) (.cons (.iff (.cmp .eq (.v 1) (.c (.int 2))) (.cons (.exp (.fu Pv.aP .len 0 1 .nil)) (.cons (.tr 31 3 (.cons (.v 0) .nil)) .nil)) (.cons (.iff (.cmp .eq (.v 1) (.c (.int 3))) (.cons (.exp (.fu Pv.aP .len 0 1 .nil)) (.cons (.tr 32 3 (.cons (.v 0) .nil)) .nil)) (.cons (.exp (.fu Pv.aP .len 0 1 .nil)) (.cons (.tr 30 3 (.cons (.v 0) (.cons (.v 3) .nil))) .nil))) .nil)) .nil)) .nil)) .nil)⟩
abbrev qA:Ev.Ss:=(.cons (.set 6 (.bin .add (.c (.int 20)) (.bin .mul (.c (.int 80)) (.v 5)))) (.cons (.set 7 (.ix (.ix (.v 3) (.v 4)) (.c (.int 1)))) (.cons (.set 8 (.ix (.cl 22 (.cons (.v 1) (.cons (.v 7) .nil))) (.c (.int 2)))) (.cons (.set 9 (.ix (.lst (.cons (.c (.int 0)) (.cons (.c (.int 0)) (.cons (.c (.int 0)) (.cons (.c (.int 0)) (.cons (.c (.int 1)) (.cons (.c (.int 2)) (.cons (.c (.int 3)) .nil)))))))) (.cl 17 (.cons (.v 0) (.cons (.v 6) (.cons (.c (.int 7)) .nil)))))) (.cons (.set 10 (.ix (.lst (.cons (.c (.str [97,110,110])) (.cons (.c (.str [98,111])) (.cons (.c (.str [97,110,110])) (.cons (.c (.str [99])) .nil))))) (.cl 17 (.cons (.v 0) (.cons (.bin .add (.v 6) (.c (.int 1))) (.cons (.c (.int 4)) .nil)))))) (.cons (.set 11 (.cl 21 (.cons (.v 0) (.cons (.bin .add (.v 6) (.c (.int 2))) (.cons (.v 8) .nil))))) (.cons (.iff (.cmp .eq (.cl 17 (.cons (.v 0) (.cons (.bin .add (.v 6) (.c (.int 70))) (.cons (.c (.int 6)) .nil)))) (.c (.int 0))) (.cons (.set 11 (.bin .add (.v 11) (.tup (.cons (.tup (.cons (.c (.str [100,114,111,112])) (.cons (.c (.str [113])) .nil))) .nil)))) .nil) .nil) (.cons (.iff (.cmp .gt (.v 9) (.c (.int 1))) (.cons (.set 12 (.fV (.cmp .eq (.v 9) (.c (.int 2))) (.bin .sub (.v 4) (.c (.int 1))) (.bin .add (.v 4) (.c (.int 1))))) (.cons (.set 13 (.fV (.ch .le .lt (.c (.int 0)) (.v 12) (.bi .len (.cons (.v 3) .nil))) (.ix (.ix (.v 3) (.bi .max (.cons (.v 4) (.cons (.v 12) .nil)))) (.c (.int 0))) (.tup (.cons (.c (.str [114,101,102,117,115,101,100])) (.cons (.c (.int 2)) .nil))))) (.cons (.set 4 (.fV (.ch .le .lt (.c (.int 0)) (.v 12) (.bi .len (.cons (.v 3) .nil))) (.v 12) (.v 4))) .nil))) (.cons (.iff (.an (.cmp .eq (.v 9) (.c (.int 0))) (.cmp .eq (.sl (.v 11) (.yes (.neg (.c (.int 1)))) .no) (.tup (.cons (.tup (.cons (.c (.str [100,114,111,112])) (.cons (.c (.str [113])) .nil))) .nil)))) (.cons (.set 13 (.tup (.cons (.c (.str [114,101,102,117,115,101,100])) (.cons (.c (.int 0)) .nil)))) .nil) (.cons (.set 14 (.fV (.cmp .eq (.v 9) (.c (.int 0))) (.bin .add (.v 7) (.lst (.cons (.tup (.cons (.v 10) (.cons (.v 11) .nil))) .nil))) (.cl 15 (.cons (.v 7) .nil)))) (.cons (.set 13 (.fV (.cmp .eq (.v 9) (.c (.int 0))) (.cl 20 (.cons (.v 11) (.cons (.v 8) .nil))) (.bin .sub (.bi .len (.cons (.v 7) .nil)) (.bi .len (.cons (.v 14) .nil))))) (.cons (.set 3 (.bin .add (.sl (.v 3) .no (.yes (.bin .add (.v 4) (.c (.int 1))))) (.lst (.cons (.tup (.cons (.ix (.lst (.cons (.c (.str [119,114,105,116,101])) (.cons (.c (.str [102,111,108,100])) .nil))) (.v 9)) (.cons (.v 14) .nil))) .nil)))) (.cons (.set 4 (.bin .add (.v 4) (.c (.int 1)))) .nil))))) .nil)) (.cons (.iff (.cmp .ne (.cl 23 (.cons (.v 2) (.cons (.v 9) (.cons (.v 10) (.cons (.v 11) .nil))))) (.v 13)) (.cons (.ret (.c (.bl false))) .nil) .nil) (.cons (.iff (.cmp .ne (.fq Pv.aP 33 (.cons (.v 2) .nil)) (.tup (.cons (.v 4) (.cons (.bin .sub (.bin .sub (.bi .len (.cons (.v 3) .nil)) (.c (.int 1))) (.v 4)) .nil)))) (.cons (.ret (.c (.bl false))) .nil) .nil) (.cons (.ki [15,16,17] (.cl 22 (.cons (.v 1) (.cons (.ix (.ix (.v 3) (.v 4)) (.c (.int 1))) .nil)))) (.cons (.iff (.orr (.cmp .ne (.fq Pv.aP 28 (.cons (.v 2) .nil)) (.v 17)) (.cmp .ne (.fq Pv.aP 29 (.cons (.v 2) .nil)) (.ix (.ix (.v 3) (.v 4)) (.c (.int 1))))) (.cons (.ret (.c (.bl false))) .nil) .nil) (.cons (.iff (.cmp .ne (.comp (.cl 23 (.cons (.v 2) (.cons (.c (.int 4)) (.cons (.v 10) (.cons (.v 18) .nil))))) (.one 18) (.kI (.cons (.bi .min (.cons (.c (.int 9)) (.cons (.bi .len (.cons (.v 15) .nil)) .nil))) .nil)) .no) (.sl (.v 15) .no (.yes (.c (.int 9))))) (.cons (.ret (.c (.bl false))) .nil) .nil) (.cons (.iff (.cmp .ne (.comp (.cl 23 (.cons (.v 2) (.cons (.c (.int 4)) (.cons (.v 10) (.cons (.v 19) .nil))))) (.one 19) (.seq (.tup (.cons (.neg (.c (.int 1))) (.cons (.bi .len (.cons (.v 15) .nil)) .nil)))) .no) (.bin .mul (.lst (.cons (.tup (.cons (.c (.str [114,101,102,117,115,101,100])) (.cons (.c (.int 1)) .nil))) .nil)) (.c (.int 2)))) (.cons (.ret (.c (.bl false))) .nil) .nil) .nil))))))))))))))
abbrev Mq:Ev.Fn:=⟨1,20,(.cons (.set 1 (.cl 18 (.cons (.v 0) (.cons (.c (.int 0)) (.cons (.c (.int 5)) .nil))))) (.cons (.new Pv.aP 2 35 [.a 0,.c (.tup []),.c (.tup [])] (.cons (.v 1) .nil)) (.cons (.set 3 (.lst (.cons (.tup (.cons (.c (.str [])) (.cons (.lst .nil) .nil))) .nil))) (.cons (.set 4 (.c (.int 0))) (.cons (.for (.one 5) (.kI (.cons (.bi .max (.cons (.c (.int 1)) (.cons (.bi .min (.cons (.c (.int 9)) (.cons (.bi .len (.cons (.v 0) .nil)) .nil))) .nil))) .nil)) qA) (.cons (.ret (.c (.bl true))) .nil))))))⟩
abbrev Ub:Ev.Fn:=Pv.uX 7 28 27 29
abbrev W8:Ev.Fn:=Pv.C5 29 15 27 28
abbrev W9:Ev.Fn:=Pv.tV
abbrev Xa:Ev.Fn:=Pv.j6
abbrev Xb:Ev.Fn:=Pv.mX
abbrev Uc:Ev.Fn:=Pv.qz 28 12 29 1
abbrev Ud:Ev.Fn:=Pv.xU 2
abbrev f32:Ev.Fn:=Pv.uW 2
abbrev Xc:Ev.Fn:=Pv.yT
def prog:List Ev.Fn:=[f0,f1,f2,f3,f4,f5,f6,f7,f8,f9,B5,LJ,LK,WX,WY,WZ,W0,W2,W3,W4,W5,W6,W7,Mp,Mq,Ub,W8,W9,Xa,Xb,Uc,Ud,f32,Xc,⟨0,0,.nil⟩,⟨0,0,.cons (.exp (.cl 34 .nil)) .nil⟩]
open PySem PySem.Spec PyProof.Rows L2 Sm
open Ev (D O Hh Fr R aJ E Es Eo T S Ss Fl Src bN bA TY BI ME)
def top(i:Nat):Stmt:=PySem.Challenge.pw_pastways_k72_ledgers.main.body.getD i (.Pass ⟨0,0,0,0⟩)
def cO(i j:Nat):Stmt:=match top i with
 |.ClassDef _ _ _ a _ _ _ _ _ _ _=>a.getD j (.Pass ⟨0,0,0,0⟩)
 |s=>s
abbrev fI(s:Str)(k:Nat)(ps:X9)(a:Nat->Addr)(d:Nat->FuncData):FI:=⟨s,a k,d k,ps⟩
def eY{N P:X9}{sc:Scope}(a:sc.kind=.function:=by rfl)(b:sc.isCoroutine=false:=by rfl)(c:sc.isGenerator=false:=by rfl)(d:N.Nodup:=by decide)(e:N.take P.length=P:=by rfl)(f:∀x∈P,sc.names.lookup x=some .local\/sc.names.lookup x=some .cell:=by decide)(g:∀y∈sc.names,y.2≠.free:=by decide):aW N P sc:=⟨a,b,c,d,e,f,g⟩
abbrev i0:=fI "size" 0 ["part"]
abbrev i1:=fI "before" 1 ["change"]
abbrev i2:=fI "after" 2 ["change"]
abbrev i3:=fI "cost" 3 ["change"]
abbrev i4:=fI "form" 4 ["change"]
abbrev i5:=fI "stretch" 5 ["kept","gone","new"]
abbrev i6:=fI "fits" 6 ["change","text"]
abbrev i7:=fI "done" 7 ["change","text"]
abbrev i8:=fI "then" 8 ["one","other"]
abbrev i9:=fI "met" 9 ["left","gone_through"]
abbrev i10:=fI "taken" 10 ["parts","many"]
abbrev i11:=fI "parted" 11 ["part","many"]
abbrev i12:=fI "owners" 12 ["text","rows"]
abbrev i13:=fI "traced" 13 ["text","rows"]
abbrev i14:=fI "traced_once" 14 ["standing","own","change"]
abbrev i15:=fI "squeezed" 15 ["rows"]
abbrev i16:=fI "_law_cell" 16 ["_law_script","_law_k"]
abbrev i17:=fI "_law_drawn" 17 ["_law_script","_law_k","_law_many"]
abbrev i18:=fI "_law_text" 18 ["_law_script","_law_at","_law_most"]
abbrev i19:=fI "_law_change" 19 ["_law_script","_law_at","_law_text_here"]
abbrev i20:=fI "_law_made" 20 ["_law_change_here","_law_text_here"]
abbrev i21:=fI "_law_small" 21 ["_law_script","_law_at","_law_text_here"]
abbrev i22:=fI "_law_marks" 22 ["_law_text_here","_law_rows"]
abbrev i23:=fI "_law_told" 23 ["_law_ledger","_law_way","_law_own","_law_thing"]
abbrev Xd:=fI "law" 24 ["_law_script"]
abbrev Ue:=fI "" 25 ["self","own","change"]
abbrev Xe:=fI "" 26 ["self"]
abbrev Xf:=fI "" 27 ["self","word","rows","now"]
abbrev Xg:=fI "" 28 ["self"]
abbrev Xh:=fI "" 29 ["self"]
abbrev Ug:=fI "" 30 ["self","place"]
abbrev Uh:=fI "" 31 ["self"]
abbrev Ui:=fI "" 32 ["self"]
abbrev Xi:=fI "" 33 ["self"]
abbrev lu(a:Nat->Addr)(d:Nat->FuncData):uc:=⟨Pv.aP,[("write",0),("fold",1),("step",2),("text",3),("entries",4),("owner_at",5),("back",6),("forth",7),("counts",8)],⟨"",a 34,d 34,["self","text"]⟩,[.a 0,.c (.tup []),.c (.tup [])]⟩
def uw:X9:=["ValueError","isinstance","len","list","max","min","range","reversed","sum","tuple"]
def EK:("len":Str)∈uw:=by decide
def HS:("list":Str)∈uw:=by decide
def VZ:("max":Str)∈uw:=by decide
def V0:("min":Str)∈uw:=by decide
def OZ:("range":Str)∈uw:=by decide
def EL:("reversed":Str)∈uw:=by decide
def V1:("sum":Str)∈uw:=by decide
def O1:("tuple":Str)∈uw:=by decide
def tb(a:Nat->Addr)(d:Nat->FuncData):Tb:=⟨prog,100000,[i0 a d,i1 a d,i2 a d,i3 a d,i4 a d,i5 a d,i6 a d,i7 a d,i8 a d,i9 a d,i10 a d,i11 a d,i12 a d,i13 a d,i14 a d,i15 a d,i16 a d,i17 a d,i18 a d,i19 a d,i20 a d,i21 a d,i22 a d,i23 a d,Xd a d],uw,[("__name__",.str [108,97,119,95,112,97,115,116,119,97,121,115,95,107,55,50,95,108,101,100,103,101,114,115])],[],[Ue a d,Xe a d,Xf a d,Xg a d,Xh a d,Ug a d,Uh a d,Ui a d,Xi a d],[lu a d]⟩
section
variable{a:Nat->Addr}{d:Nat->FuncData}{n:Nat}
def dU:lu a d∈(tb a d).oc:=(.head _)
def BE:pB (tb a d) (lu a d) Pv.aP 0 "first" :=⟨dU,rfl,[102,105,114,115,116],rfl,by decide⟩
def iI:pB (tb a d) (lu a d) Pv.aP 1 "steps" :=⟨dU,rfl,[115,116,101,112,115],rfl,by decide⟩
def iJ:pB (tb a d) (lu a d) Pv.aP 2 "later" :=⟨dU,rfl,[108,97,116,101,114],rfl,by decide⟩
def Kl:¬ yk ("later":Str):=by unfold yk;decide
abbrev n0:X9:=["part"]
def s0:aW n0 ["part"] (av (top 2)):=eY
abbrev n1:X9:=["change"]
def s1:aW n1 ["change"] (av (top 3)):=eY
abbrev n2:X9:=["change"]
def s2:aW n2 ["change"] (av (top 4)):=eY
abbrev n3:X9:=["change"]
def s3:aW n3 ["change"] (av (top 5)):=eY
abbrev n4:X9:=["change","parts","kept","gone","new","word","what"]
def s4:aW n4 ["change"] (av (top 6)):=eY
abbrev n5:X9:=["kept","gone","new","parts"]
def s5:aW n5 ["kept","gone","new"] (av (top 7)):=eY
abbrev n6:X9:=["change","text","place","part"]
def s6:aW n6 ["change","text"] (av (top 14)):=eY
abbrev n7:X9:=["change","text","pieces","place","word","what"]
def s7:aW n7 ["change","text"] (av (top 15)):=eY
abbrev n8:X9:=["one","other","ones","others","parts","many"]
def s8:aW n8 ["one","other"] (av (top 16)):=eY
abbrev n9:X9:=["left","gone_through"]
def s9:aW n9 ["left","gone_through"] (av (top 17)):=eY
abbrev Xj:X9:=["parts","many","halves"]
def Wt:aW Xj ["parts","many"] (av (top 18)):=eY
abbrev Xk:X9:=["part","many","word"]
def K1:aW Xk ["part","many"] (av (top 19)):=eY
abbrev Xl:X9:=["text","rows"]
def s12:aW Xl ["text","rows"] (av (top 21)):=eY
abbrev Xm:X9:=["text","rows","now","standing","gone","own","change","both"]
def s13:aW Xm ["text","rows"] (av (top 22)):=eY
abbrev Xn:X9:=["standing","own","change","left","gone","place","part","names"]
def s14:aW Xn ["standing","own","change"] (av (top 23)):=eY
abbrev Xo:X9:=["rows","kept","own","change","whole"]
def s15:aW Xo ["rows"] (av (top 25)):=eY
abbrev Xp:X9:=["_law_script","_law_k"]
def s16:aW Xp ["_law_script","_law_k"] (av (top 29)):=eY
abbrev Xq:X9:=["_law_script","_law_k","_law_many","_law_cell_here"]
def s17:aW Xq ["_law_script","_law_k","_law_many"] (av (top 30)):=eY
abbrev Xr:X9:=["_law_script","_law_at","_law_most"]
def s18:aW Xr ["_law_script","_law_at","_law_most"] (av (top 31)):=eY
abbrev Xu:X9:=["_law_script","_law_at","_law_text_here","_law_found","_law_k","_law_new","_law_is_kept"]
def s19:aW Xu ["_law_script","_law_at","_law_text_here"] (av (top 32)):=eY
abbrev Xv:X9:=["_law_change_here","_law_text_here","_law_place","_law_found","_law_word","_law_what"]
def s20:aW Xv ["_law_change_here","_law_text_here"] (av (top 33)):=eY
abbrev Xw:X9:=["_law_script","_law_at","_law_text_here","_law_place","_law_here","_law_rest"]
def s21:aW Xw ["_law_script","_law_at","_law_text_here"] (av (top 34)):=eY
abbrev Xx:X9:=["_law_text_here","_law_rows","_law_here","_law_gone","_law_own","_law_change_here","_law_place","_law_fresh","_law_word","_law_what","_law_many"]
def s22:aW Xx ["_law_text_here","_law_rows"] (av (top 35)):=eY
abbrev Xy:X9:=["_law_ledger","_law_way","_law_own","_law_thing","_law_e"]
def s23:aW Xy ["_law_ledger","_law_way","_law_own","_law_thing"] (av (top 37)):=eY
abbrev Xz:X9:=["_law_script","_law_first","_law_ledger","_law_rows","_law_at","_law_k","_law_here","_law_entries","_law_text_here","_law_way","_law_own","_law_thing","_law_there","_law_due","_law_new","_law_marks_here","_law_gone","_law_last"]
def s24:aW Xz ["_law_script"] (av (top 38)):=eY
abbrev Mr:X9:=["self","own","change","now"]
def XA:aW Mr ["self","own","change"] (av (cO 27 1)):=eY
abbrev XD:X9:=["self","rows","fewer"]
def s26:aW XD ["self"] (av (cO 27 2)):=eY
abbrev XE:X9:=["self","word","rows","now"]
def s27:aW XE ["self","word","rows","now"] (av (cO 27 3)):=eY
abbrev XF:X9:=["self"]
def s28:aW XF ["self"] (av (cO 27 4)):=eY
abbrev XG:X9:=["self"]
def s29:aW XG ["self"] (av (cO 27 5)):=eY
abbrev Ms:X9:=["self","place"]
def XH:aW Ms ["self","place"] (av (cO 27 6)):=eY
abbrev Mt:X9:=["self"]
def XJ:aW Mt ["self"] (av (cO 27 7)):=eY
abbrev n32:X9:=["self"]
def XM:aW n32 ["self"] (av (cO 27 8)):=eY
abbrev XN:X9:=["self"]
def s33:aW XN ["self"] (av (cO 27 9)):=eY
def eN:List (Str×Nat):=[("NoFit",0),("NoPlace",1),("NoNumber",2)]
def rz:Θ:=[7,25,30,31,32]
def su:Θ:=[7,25,30,31,32]
def hz:Ev.rq rz 0 prog=true:=by decide
def aaA(s:Stmt):Kx:=match cV s with
 |[.Try [.Return (some (.Call _ xs _ _)) _] _ _ _ _]=>xs
 |_=>[]
def ZN(s:Stmt):List Stmt:=match cV s with
 |[.Try xs _ _ _ _]=>xs
 |_=>[]
set_option maxHeartbeats 0 in
def u0{cl:Nat->Addr}:allB (tb a d) n [(f0.body,top 2,n0),(f1.body,top 3,n1),(f2.body,top 4,n2),(f3.body,top 5,n3),(f4.body,top 6,n4),(f5.body,top 7,n5),(f6.body,top 14,n6),(f7.body,top 15,n7),(f8.body,top 16,n8),(f9.body,top 17,n9),(B5.body,top 18,Xj),(LJ.body,top 19,Xk),(LK.body,top 21,Xl),(WX.body,top 22,Xm),(WY.body,top 23,Xn),(WZ.body,top 25,Xo),(W0.body,top 29,Xp),(W2.body,top 30,Xq),(W3.body,top 31,Xr),(W4.body,top 32,Xu),(W5.body,top 33,Xv),(W6.body,top 34,Xw),(W7.body,top 35,Xx),(Mq.body,top 38,Xz),(Ub.body,cO 27 1,Mr),(W8.body,cO 27 2,XD),(W9.body,cO 27 3,XE),(Xa.body,cO 27 4,XF),(Xb.body,cO 27 5,XG),(Uc.body,cO 27 6,Ms),(Ud.body,cO 27 7,Mt),(f32.body,cO 27 8,n32),(Xc.body,cO 27 9,XN)]/\nu (tb a d) cl eN rz su n (av (top 15)) n7 true (List.range n7.length) f7.body (cV (top 15))/\nu (tb a d) cl eN rz su n (av (cO 27 1)) Mr true (List.range Mr.length) Ub.body (cV (cO 27 1))/\nu (tb a d) cl eN rz su n (av (cO 27 6)) Ms true (List.range Ms.length) Uc.body (cV (cO 27 6))/\nu (tb a d) cl eN rz su n (av (cO 27 7)) Mt true (List.range Mt.length) Ud.body (cV (cO 27 7))/\nu (tb a d) cl eN rz su n (av (cO 27 8)) n32 true (List.range n32.length) f32.body (cV (cO 27 8))/\TB (tb a d) cl 3 su n (av (top 37)) Xy Mp.body (ZN (top 37)):=by
 refine⟨⟨?_,?_,?_,?_,?_,?_,?_,?_,?_,?_,?_,?_,?_,?_,?_,?_,?_,?_,?_,?_,?_,?_,?_,?_,?_,?_,?_,?_,?_,?_,?_,?_,?_,trivial⟩,gq ?_ (tu ?_ (by decide) (gq ?_ (tD) (fS (by decide))) (fS (by decide))) (fS (by decide)),gq ?_ (NG (by decide) (Vv (by decide) (by decide) rfl rfl ?_ (RG (by decide)))) (fS (by decide)),gq ?_ (tu ?_ (by decide) (gq ?_ (tD) (fS (by decide))) (fS (by decide))) (fS (by decide)),gq ?_ (tu ?_ (by decide) (gq ?_ (tD) (fS (by decide))) (fS (by decide))) (fS (by decide)),gq ?_ (tu ?_ (by decide) (gq ?_ (tD) (fS (by decide))) (fS (by decide))) (fS (by decide)),Ak ?_ (vE (Cr (f':=0) (mn:="write") (by show prog.length<=1000;decide) dU rfl (.head _) rfl (by decide) (by decide) ?_ (by decide))) (Ak ?_ (vE (uM (f':=1) (mn:="fold") (rz:=rz) (by show prog.length<=1000;decide) dU rfl (.tail _ (.head _)) rfl (.inr (by decide)) hz (by decide) (by decide))) (Ak ?_ (vE (uM (f':=6) (mn:="back") (rz:=rz) (by show prog.length<=1000;decide) dU rfl (.tail _ (.tail _ (.tail _ (.tail _ (.tail _ (.tail _ (.head _))))))) rfl (.inl (by decide)) hz (by decide) (by decide))) (vE (NH ?_ (uM (f':=7) (mn:="forth") (rz:=rz) (by show prog.length<=1000;decide) dU rfl (.tail _ (.tail _ (.tail _ (.tail _ (.tail _ (.tail _ (.tail _ (.head _)))))))) rfl (.inl (by decide)) hz (by decide) (by decide)) (Cr (f':=5) (mn:="owner_at") (by show prog.length<=1000;decide) dU rfl (.tail _ (.tail _ (.tail _ (.tail _ (.tail _ (.head _)))))) rfl (by decide) (by decide) ?_ (by decide))))))⟩;all_goals try dsimp only
 all_goals repeat (first
  | (exists JE,(.v _);exact jv (by kernel_rfl))
  | (exists JA,(.cons _ _);refine MW ?_ ?_)
  | (exists qJ,(.cons _ _);refine IU ?_ ?_)
  | (exists JA,.nil;refine Qc)
  | (exists JE,(.c (.int _));refine P8)
  | (exists qJ,.nil;refine M7)
  | (exists JE,(.c (.str _));refine Qa)
  | (exists JE,(.bin .add _ _);refine rG (λX g=>QK) ?_ ?_)
  | (exists JE,(.ix _ _);refine Vc (λX g=>Vm) ?_ ?_)
  | (exists JE,(.cl _ _);refine jcl (by kernel_rfl) rfl rfl ?_)
  | (exists JS,(.iff _ _ _);refine Qy ?_ ?_ ?_)
  | (exists JS,(.ret _);refine Qw ?_)
  | (exists JE,(.tup _);refine Qd ?_)
  | (exists JT,(.cmp .eq _ _);refine rJ (λX g=>Lc g) ?_ ?_ (lI _))
  | (exists JE,(.bi .len _);refine zh (x:="len") (id:="len") (λX g=>QY) ?_ (hb:=EK) (hv:=by kernel_rfl))
  | (exists JE,(.lst _);refine Qe ?_)
  | (exists yo,(_ :: _);refine jgc (by decide) ?_)
  | (exists JS,(.exp _);refine Qv ?_)
  | (exists JO,(.yes _);refine Qm ?_)
  | ((with_reducible show JI _ _ _ _ _ _ (.seq _) _ _);refine Qq ?_)
  | (exists JT,(.cmp .ne _ _);refine rJ (λX g=>Vj g) ?_ ?_ (lI _))
  | (exists JG,(.one _);exact jg1 (by kernel_rfl))
  | (exists JE,(.sl _ _ _);refine Ve (λX g=>QV) ?_ ?_ ?_)
  | (exists JE,(.bin .mul _ _);refine rG (λX g=>QW) ?_ ?_)
  | (exists JE,(.fV _ _ _);refine Qg ?_ ?_ ?_)
  | (exists JE,(.comp _ _ _ _);refine Vq (by kernel_rfl) (by kernel_rfl) ?_ ?_ ?_ ?_)
  | (exists JS,(.for _ _ _);refine QA ?_ ?_ ?_)
  | (exists JG,(.many _);refine M6 ?_)
  | ((with_reducible show yo _ _ _ _ _ _ [] _);refine M5)
  | (exists JC,.no;refine Vg)
  | (exists JE,(.me .append _ (.cons _ _));refine DM aa8 ack acj (λX g=>Gg) rfl ?_ ?_)
  | (exists JE,(.bin .sub _ _);refine rG (λX g=>QL) ?_ ?_)
  | (exists JT,(.cmp .gt _ _);refine rJ (λX g=>Le) ?_ ?_ (lI _))
  | (exists JE,(.me .extend _ (.cons _ _));refine DM aa8 PySem.F.slot_list_extend PySem.F.type_list_extend (λX g=>Gh) rfl ?_ ?_)
  | (exists JE,(.c (.bl _));refine U6)
  | (exists JE,(.neg _);refine Qf ?_)
  | (exists JS,(.fP _);refine Q5)
  | (exists JE,(.bin .mod _ _);refine rG (λX g=>QM) ?_ ?_)
  | (exists JT,(.an _ _);refine Zl ?_ ?_)
  | ((with_reducible show JW _ _ _ _ _ _ (.an _ _) (.BoolOp _ (_ :: _ :: _) _));refine KS ?_ ?_)
  | ((with_reducible show JW _ _ _ _ _ _ _ (.BoolOp .And [_] _));refine Qi ?_)
  | (exists JO,.no;refine Vd)
  | (exists JT,(.orr _ _);refine Zm ?_ ?_)
  | ((with_reducible show JW _ _ _ _ _ _ (.orr _ _) (.BoolOp _ (_ :: _ :: _) _));refine FA ?_ ?_)
  | ((with_reducible show JW _ _ _ _ _ _ _ (.BoolOp .Or [_] _));refine MX ?_)
  | (exists JE,(.me .pop _ .nil);refine Qn aa8 adt ads (λX g=>Q2) rfl ?_)
  | (exists JE,(.c .aN);refine P9)
  | (exists JE,(.bin .fdiv _ _);refine rG (λX g=>Nh) ?_ ?_)
  | ((with_reducible show JI _ _ _ _ _ _ (.kI (.cons _ .nil)) _ _);refine M4 ?_ (hb:=OZ))
  | (exists JE,(.fq Pv.aP 28 (.cons _ .nil));exact sX (f':=3) (mn:="text") dU rfl (.tail _ (.tail _ (.tail _ (.head _)))) rfl (by kernel_rfl))
  | (exists JE,(.fq Pv.aP 29 (.cons _ .nil));exact sX (f':=4) (mn:="entries") dU rfl (.tail _ (.tail _ (.tail _ (.tail _ (.head _))))) rfl (by kernel_rfl))
  | (exists JE,(.bi .sum _);refine zh (x:="sum") (id:="sum") (λX g=>QX g) ?_ (hb:=V1) (hv:=by kernel_rfl))
  | (exists JC,(.yes _);refine QB ?_)
  | (exists JE,(.kh _);refine Q4 ?_ (h1:=O1))
  | (exists JT,(.nt _);refine Vb ?_)
  | (exists JE,(.me .join _ (.cons _ _));refine DM PySem.F.plainAttrs_str PySem.F.slot_str_join PySem.F.type_str_join (λX g=>Np) rfl ?_ ?_)
  | (exists JE,(.bi .min _);refine zh (x:="min") (id:="min") (λX g=>QZ g) ?_ (hb:=V0) (hv:=by kernel_rfl))
  | (exists JT,(.cmp .lt _ _);refine rJ (λX g=>Ld) ?_ ?_ (lI _))
  | (exists JT,(.fu Pv.aP .t9 _ 1 _);exact Cf iI (by kernel_rfl))
  | ((with_reducible show JE _ _ _ _ _ _ (.fu Pv.aP .ix _ 1 (.cons (.neg (.c (.int 1))) .nil)) _);exact Ac iI (by kernel_rfl))
  | (exists JE,(.jx (.rev _));refine Nr ?_ (h1:=HS) (hb:=EL))
  | (exists JS,(.set _ (.comp _ _ _ _));refine Vr (by kernel_rfl) (by kernel_rfl) (by kernel_rfl) ?_ ?_ ?_ ?_)
  | (exists JE,(.bi .max _);refine zh (x:="max") (id:="max") (λX g=>Q0 g) ?_ (hb:=VZ) (hv:=by kernel_rfl))
  | (exists JT,(.ch _ _ _ _ _);refine Va (λX g=>Vk) (λX g=>Ld) ?_ ?_ ?_)
  | (exists JE,(.fq Pv.aP 27 (.cons _ (.cons _ _)));refine Gq (f':=2) (mn:="step") dU rfl (.tail _ (.tail _ (.head _))) rfl (by kernel_rfl) ?_)
  | (exists JE,(.fld Pv.aP _ 0);exact Ri BE (by kernel_rfl))
  | (exists JE,(.cmp .eq _ _);refine Fz (λX g=>Lc g) ?_ ?_ (lI _))
  | (exists JS,(.qG _ _);refine Qz ?_ ?_)
  | (exists JS,.cnt;refine Qx)
  | (exists JE,(.cmp .gt _ _);refine Fz (λX g=>Le) ?_ ?_ (lI _))
  | (exists JS,(.new Pv.aP _ _ _ _);refine Rt (pC:=34) (by decide) dU rfl rfl (by decide) rfl rfl (by decide) (by decide) (by decide) rfl ?_)
  | (exists JE,(.fq Pv.aP 33 (.cons _ .nil));exact sX (f':=8) (mn:="counts") dU rfl (.tail _ (.tail _ (.tail _ (.tail _ (.tail _ (.tail _ (.tail _ (.tail _ (.head _))))))))) rfl (by kernel_rfl))
  | (exists JS,(.ki _ _);refine M8 ?_ ?_)
  | (exists JE,(.fm Pv.aP .app _ 1 _);refine Nv iI (.inl rfl) (by kernel_rfl) ?_)
  | (exists JS,(.q9 Pv.aP _ 2);exact Rl iJ Kl (by kernel_rfl))
  | (exists JE,(.jx (.seq _));refine Q3 ?_ (h1:=HS))
  | (exists JT,(.cmp .ge _ _);refine rJ (λX g=>Vl) ?_ ?_ (lI _))
  | (exists JE,(.mv Pv.aP _ 2 1);exact Lj iJ iI (by kernel_rfl))
  | ((with_reducible show JE _ _ _ _ _ _ (.fu Pv.aP .ix _ 2 (.cons (.neg (.c (.int 1))) .nil)) _);exact Ac iJ (by kernel_rfl))
  | (exists JT,(.fu Pv.aP .t9 _ 2 _);exact Cf iJ (by kernel_rfl))
  | (exists JE,(.mv Pv.aP _ 1 2);exact Lj iI iJ (by kernel_rfl))
  | (exists JE,(.fu Pv.aP .len _ 1 _);exact Ce iI (by kernel_rfl) (hb:=EK))
  | (exists JE,(.fu Pv.aP .len _ 2 _);exact Ce iJ (by kernel_rfl) (hb:=EK))
  | (exists JS,(.set _ _);refine Zk ?_ ?_;kernel_rfl)
  | (exists JT,_;refine Qk ?_))
end
def qB{l:List α}(h:l.length=1):∃a,l=[a]:=by
 rcases l with _|⟨a,_|⟨b,l⟩⟩<;>simp at h ⊢
def EM{l:List α}(h:l.length=2):∃a b,l=[a,b]:=by
 rcases l with _|⟨a,l⟩
 .simp at h
 .obtain⟨b,rfl⟩:=qB (l:=l) (by simpa using h);exact⟨a,b,rfl⟩
def Km{l:List α}(h:l.length=3):∃a b c,l=[a,b,c]:=by
 rcases l with _|⟨a,l⟩
 .simp at h
 .obtain⟨b,c,rfl⟩:=EM (l:=l) (by simpa using h);exact⟨a,b,c,rfl⟩
def Uj{l:List α}(h:l.length=4):∃a b c d,l=[a,b,c,d]:=by
 rcases l with _|⟨a,l⟩
 .simp at h
 .obtain⟨b,c,d,rfl⟩:=Km (l:=l) (by simpa using h);exact⟨a,b,c,d,rfl⟩
def Kn:aW ["self","text"] ["self","text"] (av (cO 27 0)):=eY
def Ko:Ad (av (cO 27 0)) ["self","text"] (ng Pv.aP 0 Pv.aP.nm [.a 0,.c (.tup []),.c (.tup [])]) (cV (cO 27 0)):=by
 exact Ny (by decide) (by decide) (Gv (by decide) (Gv (by decide) (Nx)))
def Kp:∀p∈ng Pv.aP 0 Pv.aP.nm [.a 0,.c (.tup []),.c (.tup [])],∃f∈Pv.aP.nm,p.1=aI f:=by
 exact List.forall_mem_cons.mpr ⟨⟨_,(.head _),rfl⟩,List.forall_mem_cons.mpr ⟨⟨_,(.tail _ (.head _)),rfl⟩,List.forall_mem_cons.mpr ⟨⟨_,(.tail _ (.tail _ (.head _))),rfl⟩,λ_ h=>nomatch h⟩⟩⟩
def cg{α:Type _}{p:α->Prop}{a:α}{l:List α}(h:p a)(q:∀x∈l,p x):∀x∈a :: l,p x:=List.forall_mem_cons.mpr ⟨h,q⟩
def yY{α:Type _}{p:α->Prop}:∀x∈([]:List α),p x:=λ_ h=>nomatch h
structure Mg(K:Φ)(C:Addr)(x q:Str)(st:Stmt)(p:Addr)(d:FuncData):Prop where
 a:W.findIn K (.ref C) x=some (some (.ref p))
 i:W.isFn K (.ref p)=true
 f:o6 K x q st p d
structure Og(K:Φ)(x:Str)(C:Addr):Prop where
 ns:W.nsIn K mainGlobals x=some (some (.ref C))
 pg:W.plainGet K C Str.empty=true
 hd:W.hasDictIn K C=true
 po:W.plainOver K C=true
 sa:W.findIn K (.ref C) "__setattr__" = some (some (.builtin "object.__setattr__"))
 mk_:W.makesIn K C=true
 kc:W.keepIn K (.ref C)=true
structure Fg(K:Φ)(x:Str)(i:Nat)(p:Addr)(d:FuncData):Prop where
 a:W.nsIn K mainGlobals x=some (some (.ref p))
 f:o6 K x x (top i) p d
def Fg.t{K:Φ}{h:Heap}{mg:W1}{x:Str}{i:Nat}{p:Addr}{d:FuncData}{ps:X9}(F:Fg K x i p d)(X:K.In h)(G:h.Ns mainGlobals mg)(b:Binds K d ps []):mg x=some (.ref p)/\W.keepIn K (.ref p)=true/\Binds K d ps []:=⟨abm X G F.a,F.f.kp,b⟩
def all_mk{l:W.OpenLaw}{w:World}{K:Φ}{h:Heap}{mg:W1}{fa p0 p1 p2 p3 p4 p5 p6 p7 p8 p9 Ln Lo Lq Lr Ls Lu Lv Lx Ly Lz Gz GA LA LC GB:Addr}{d0 d1 d2 d3 d4 d5 d6 d7 d8 d9 HU HV XO XQ XS XT XU XW XX XY XZ X3 X4 X5 Uk:FuncData}(X:K.In h)(G:h.Ns mainGlobals mg)(hfa:mg "law" = some (.ref fa))(F0:Fg K "size" 2 p0 d0)(F1:Fg K "before" 3 p1 d1)(F2:Fg K "after" 4 p2 d2)(F3:Fg K "cost" 5 p3 d3)(F4:Fg K "form" 6 p4 d4)(F5:Fg K "stretch" 7 p5 d5)(F6:Fg K "fits" 14 p6 d6)(F7:Fg K "done" 15 p7 d7)(F8:Fg K "then" 16 p8 d8)(F9:Fg K "met" 17 p9 d9)(Ul:Fg K "taken" 18 Ln HU)(Um:Fg K "parted" 19 Lo HV)(Uo:Fg K "owners" 21 Lq XO)(Up:Fg K "traced" 22 Lr XQ)(Uq:Fg K "traced_once" 23 Ls XS)(Ur:Fg K "squeezed" 25 Lu XT)(Us:Fg K "_law_cell" 29 Lv XU)(Ut:Fg K "_law_drawn" 30 Lx XW)(Uu:Fg K "_law_text" 31 Ly XX)(Uv:Fg K "_law_change" 32 Lz XY)(Uw:Fg K "_law_made" 33 Gz XZ)(Ux:Fg K "_law_small" 34 GA X3)(Uy:Fg K "_law_marks" 35 LA X4)(Uz:Fg K "_law_told" 37 LC X5)(HW:Fg K "law" 38 GB Uk){jl LD LF X6 X7 X8 Yb Yc Yd Ye Yg:Addr}{Yh Yi Yj Yk Yl Ym Yn Yo Yp Yq:FuncData}(O0:Og K "Ledger" jl)(I0:Mg K jl "__init__" "Ledger.__init__" (cO 27 0) Yg Yq)(ZO:W.findIn K (.ref jl) "first" = some none)(ZP:W.findIn K (.ref jl) "steps" = some none)(ZQ:W.findIn K (.ref jl) "later" = some none)(Bq:Mg K jl "write" "Ledger.write" (cO 27 1) LD Yh)(C7:Mg K jl "fold" "Ledger.fold" (cO 27 2) LF Yi)(C8:Mg K jl "step" "Ledger.step" (cO 27 3) X6 Yj)(C9:Mg K jl "text" "Ledger.text" (cO 27 4) X7 Yk)(Dc:Mg K jl "entries" "Ledger.entries" (cO 27 5) X8 Yl)(Br:Mg K jl "owner_at" "Ledger.owner_at" (cO 27 6) Yb Ym)(Bs:Mg K jl "back" "Ledger.back" (cO 27 7) Yc Yn)(Bt:Mg K jl "forth" "Ledger.forth" (cO 27 8) Yd Yo)(De:Mg K jl "counts" "Ledger.counts" (cO 27 9) Ye Yp){pr Wc C0 C1 C2:Addr}{dr:FuncData}(FR:Fg K "_law_refused" 36 pr dr)(xw:W.nsIn K mainGlobals "WayError" = some (some (.ref Wc)))(X0:D8 K "NoFit" C0 Wc C0 C1 C2 jl 0)(X1:D8 K "NoPlace" C1 Wc C0 C1 C2 jl 1)(X2:D8 K "NoNumber" C2 Wc C0 C1 C2 jl 2)(z0:W.nsIn K mainGlobals "ValueError" = some none)(z1:W.nsIn K mainGlobals "isinstance" = some none)(z2:W.nsIn K mainGlobals "len" = some none)(z3:W.nsIn K mainGlobals "list" = some none)(z4:W.nsIn K mainGlobals "max" = some none)(z5:W.nsIn K mainGlobals "min" = some none)(z6:W.nsIn K mainGlobals "range" = some none)(z7:W.nsIn K mainGlobals "reversed" = some none)(z8:W.nsIn K mainGlobals "sum" = some none)(z9:W.nsIn K mainGlobals "tuple" = some none){t0:Tok}(q0:W.nsIn K mainGlobals "__name__" = some (some (.str "law_pastways_k72_ledgers" t0))): ∃fd:FuncData,(∀(s:Shared) (v:Value),BindsTo s fd ⟨[v],[]⟩ [("_law_script",v)])/\∀base:Heap,K.In base->base.Ns mainGlobals mg->eT l.prog w K mg base kJ 60 fa fd ["_law_script"] (qI K prog 100000 60 24):=by
 have e:=hfa.symm.trans (abm X G HW.a);have e2:GB=fa:=by injection e with e;injection e with e;exact e.symm
 subst e2
 let aa:Nat->Addr:=λk=>[p0,p1,p2,p3,p4,p5,p6,p7,p8,p9,Ln,Lo,Lq,Lr,Ls,Lu,Lv,Lx,Ly,Lz,Gz,GA,LA,LC,GB,LD,LF,X6,X7,X8,Yb,Yc,Yd,Ye,Yg].getD k p0
 let dd:Nat->FuncData:=λk=>[d0,d1,d2,d3,d4,d5,d6,d7,d8,d9,HU,HV,XO,XQ,XS,XT,XU,XW,XX,XY,XZ,X3,X4,X5,Uk,Yh,Yi,Yj,Yk,Yl,Ym,Yn,Yo,Yp,Yq].getD k d0
 have T:Top l.prog w K mg (tb aa dd):=by
  refine⟨λf i b=>(show ∀i∈(tb aa dd).fi,mg i.name=some (.ref i.addr)/\W.keepIn K (.ref i.addr)=true/\Binds K i.fd i.ps []from ?_) i (aaC b),?_,?_,?_,λf i b=>(show ∀i∈(tb aa dd).mi,W.keepIn K (.ref i.addr)=true/\Binds K i.fd i.ps []from ?_) i (aaC b),λbase=>?_⟩
  .refine cg (F0.t X G (F0.f.binds ?_)) (cg (F1.t X G (F1.f.binds ?_)) (cg (F2.t X G (F2.f.binds ?_)) (cg (F3.t X G (F3.f.binds ?_)) (cg (F4.t X G (F4.f.binds ?_)) (cg (F5.t X G (F5.f.binds ?_)) (cg (F6.t X G (F6.f.binds ?_)) (cg (F7.t X G (F7.f.binds ?_)) (cg (F8.t X G (F8.f.binds ?_)) (cg (F9.t X G (F9.f.binds ?_)) (cg (Ul.t X G (Ul.f.binds ?_)) (cg (Um.t X G (Um.f.binds ?_)) (cg (Uo.t X G (Uo.f.binds ?_)) (cg (Up.t X G (Up.f.binds ?_)) (cg (Uq.t X G (Uq.f.binds ?_)) (cg (Ur.t X G (Ur.f.binds ?_)) (cg (Us.t X G (Us.f.binds ?_)) (cg (Ut.t X G (Ut.f.binds ?_)) (cg (Uu.t X G (Uu.f.binds ?_)) (cg (Uv.t X G (Uv.f.binds ?_)) (cg (Uw.t X G (Uw.f.binds ?_)) (cg (Ux.t X G (Ux.f.binds ?_)) (cg (Uy.t X G (Uy.f.binds ?_)) (cg (Uz.t X G (Uz.f.binds ?_)) (cg (HW.t X G (HW.f.binds ?_)) yY))))))))))))))))))))))));all_goals intro _ _ _ _ _ _ q p;first | (obtain⟨_,rfl⟩:=qB p;rfl) | (obtain⟨_,_,rfl⟩:=EM p;rfl) | (obtain⟨_,_,_,rfl⟩:=Km p;rfl) | (obtain⟨_,_,_,_,rfl⟩:=Uj p;rfl)
  .exact(show ∀x∈uw,mg x=none from cg (aa1 X G z0) (cg (aa1 X G z1) (cg (aa1 X G z2) (cg (aa1 X G z3) (cg (aa1 X G z4) (cg (aa1 X G z5) (cg (aa1 X G z6) (cg (aa1 X G z7) (cg (aa1 X G z8) (cg (aa1 X G z9) yY))))))))))
  .exact λx d z=>(show ∀y∈(tb aa dd).cs,∃v u,mg y.1=some u/\RelV v u/\BW K y.2 v from cg (⟨.str "law_pastways_k72_ledgers",_,abm X G q0,⟨_,rfl⟩,λ_ _=>⟨by decide,by decide⟩⟩) yY) (x,d) z
  .exact λx d z=>(show ∀y∈(tb aa dd).dk,∃a,mg y.1=some (.ref a)/\∀h:Heap,K.In h->StrTab l.prog w h a (tabOf y.2)from λ_ h=>nomatch h) (x,d) z
  .exact cg (⟨Bq.f.kp,(Bq.f.binds λ_ _ _ _ _ _ q p=>by obtain⟨_,_,_,rfl⟩:=Km p;rfl)⟩) (cg (⟨C7.f.kp,(C7.f.binds λ_ _ _ _ _ _ q p=>by obtain⟨_,rfl⟩:=qB p;rfl)⟩) (cg (⟨C8.f.kp,(C8.f.binds λ_ _ _ _ _ _ q p=>by obtain⟨_,_,_,_,rfl⟩:=Uj p;rfl)⟩) (cg (⟨C9.f.kp,(C9.f.binds λ_ _ _ _ _ _ q p=>by obtain⟨_,rfl⟩:=qB p;rfl)⟩) (cg (⟨Dc.f.kp,(Dc.f.binds λ_ _ _ _ _ _ q p=>by obtain⟨_,rfl⟩:=qB p;rfl)⟩) (cg (⟨Br.f.kp,(Br.f.binds λ_ _ _ _ _ _ q p=>by obtain⟨_,_,rfl⟩:=EM p;rfl)⟩) (cg (⟨Bs.f.kp,(Bs.f.binds λ_ _ _ _ _ _ q p=>by obtain⟨_,rfl⟩:=qB p;rfl)⟩) (cg (⟨Bt.f.kp,(Bt.f.binds λ_ _ _ _ _ _ q p=>by obtain⟨_,rfl⟩:=qB p;rfl)⟩) (cg (⟨De.f.kp,(De.f.binds λ_ _ _ _ _ _ q p=>by obtain⟨_,rfl⟩:=qB p;rfl)⟩) yY))))))))
  have UA:W.nsIn K mainGlobals (aI Pv.aP.cn)=some (some (.ref jl)):=Vt (by decide) O0.ns;have Yr:∀f∈Pv.aP.nm,iy K jl (aI f):=cg (D5 (by decide) ZO) (cg (D5 (by decide) ZP) (cg (D5 (by decide) ZQ) yY));have F:IQ l.prog w K mg base (tb aa dd).mi (lu aa dd) jl:=⟨UA,abm X G UA,⟨O0.pg,O0.hd,O0.po,O0.sa⟩,Yr,(show Pv.aP.nm.Nodup by decide),cg (⟨Ue aa dd,rfl,⟨Bq.a,Bq.i,Bq.f.kp⟩,(show("write":Str)∉Pv.aP.nm.map aI by decide)⟩) (cg (⟨Xe aa dd,rfl,⟨C7.a,C7.i,C7.f.kp⟩,(show("fold":Str)∉Pv.aP.nm.map aI by decide)⟩) (cg (⟨Xf aa dd,rfl,⟨C8.a,C8.i,C8.f.kp⟩,(show("step":Str)∉Pv.aP.nm.map aI by decide)⟩) (cg (⟨Xg aa dd,rfl,⟨C9.a,C9.i,C9.f.kp⟩,(show("text":Str)∉Pv.aP.nm.map aI by decide)⟩) (cg (⟨Xh aa dd,rfl,⟨Dc.a,Dc.i,Dc.f.kp⟩,(show("entries":Str)∉Pv.aP.nm.map aI by decide)⟩) (cg (⟨Ug aa dd,rfl,⟨Br.a,Br.i,Br.f.kp⟩,(show("owner_at":Str)∉Pv.aP.nm.map aI by decide)⟩) (cg (⟨Uh aa dd,rfl,⟨Bs.a,Bs.i,Bs.f.kp⟩,(show("back":Str)∉Pv.aP.nm.map aI by decide)⟩) (cg (⟨Ui aa dd,rfl,⟨Bt.a,Bt.i,Bt.f.kp⟩,(show("forth":Str)∉Pv.aP.nm.map aI by decide)⟩) (cg (⟨Xi aa dd,rfl,⟨De.a,De.i,De.f.kp⟩,(show("counts":Str)∉Pv.aP.nm.map aI by decide)⟩) yY)))))))),⟨O0.mk_,I0.a,I0.i,O0.kc⟩,(I0.f.binds λ_ _ _ _ _ _ q p=>by obtain⟨_,_,rfl⟩:=EM p;rfl),λk=>Rm (o:=lu aa dd) I0.f Kn UA ⟨O0.pg,O0.hd,O0.po,O0.sa⟩ Yr (by show 0<2;decide) (by show 3<1000;decide) Kp (Ko) k⟩
  exact cg (⟨jl,F⟩) yY
 refine⟨Uk,λs v=>?_,λbase _ _=>?_⟩
 .obtain⟨oc,od,kV,doc,pm,an,cdv,ct,osl,e,_⟩:=HW.f.ex;rw[e];exact .of_eq rfl
 let cl:Nat->Addr:=λk=>[C0,C1,C2].getD k C0
 have A:∀x c,(x,c)∈eN->mg x=some (.ref (cl c))/\GD K (cl c):=λx c z=>(show ∀y∈eN,mg y.1=some (.ref (cl y.2))/\GD K (cl y.2)from cg (⟨abm X G X0.ns,X0.rs⟩) (cg (⟨abm X G X1.ns,X1.rs⟩) (cg (⟨abm X G X2.ns,X2.rs⟩) yY))) (x,c) z;have kc:∀c,c<3->(λC c=>Lm K C c C0 C1 C2 jl/\c<3) (cl c) c/\W.exmOne K (.ref (cl c)) (.ref Wc)=some true:=λc h=>match c,h with
  |0,_=>⟨⟨X0.cs,by decide⟩,X0.em⟩
  |1,_=>⟨⟨X1.cs,by decide⟩,X1.em⟩
  |2,_=>⟨⟨X2.cs,by decide⟩,X2.em⟩
 have R:Jo K mg pr dr (top 36) Wc (λC c=>Lm K C c C0 C1 C2 jl/\c<3):=⟨FR.f,eY,FR.f.binds λ_ _ _ _ _ _ q p=>by obtain⟨_,rfl⟩:=qB p;rfl,abm X G FR.a,abm X G xw,λY a oe C c h1 r h3 B hp ho hd k=>Gy hp ho hd (by rw[h3];exact k.1) k.2 (by show Y.env.scope.names.lookup _=_;rw[r];rfl) (by show Y.env.scope.names.lookup _=_;rw[r];rfl) (by show Y.env.scope.names.lookup _=_;rw[r];rfl) (by show Y.env.scope.names.lookup _=_;rw[r];rfl) (by show Y.env.scope.names.lookup _=_;rw[r];rfl) (by rw[B];exact abm X G X0.ns) (by rw[B];exact abm X G X1.ns) (by rw[B];exact abm X G X2.ns) (by rw[B];exact aa1 X G z1) (by rw[B];exact aa1 X G z0) (by decide) (by decide) (by decide) h1 (by rw[r];rfl) (by rw[r];rfl) rfl rfl⟩
 refine(xx (P:=l.prog) (w:=w) (G:=tb aa dd) (cl:=cl) (su:=su) (base:=base) (λn A0 A1=>⟨λf i b=>?_,λf i b g=>?_⟩) 60).1 24 (Xd aa dd) rfl
 .obtain⟨⟨b0,b1,b2,b3,b4,b5,b6,b7,b8,b9,H,I,J,L,M,N,Q,Z,b18,b19,b20,b21,b22,b23,b24,b25,b26,b27,b28,b29,b30,b31,b32,_⟩,_⟩:=u0 (a:=aa) (d:=dd) (n:=n) (cl:=cl)
  match f,b with
  |0,b=>cases b;exact cE T A0 F0.f s0 rfl rfl b0
  |1,b=>cases b;exact cE T A0 F1.f s1 rfl rfl b1
  |2,b=>cases b;exact cE T A0 F2.f s2 rfl rfl b2
  |3,b=>cases b;exact cE T A0 F3.f s3 rfl rfl b3
  |4,b=>cases b;exact cE T A0 F4.f s4 rfl rfl b4
  |5,b=>cases b;exact cE T A0 F5.f s5 rfl rfl b5
  |6,b=>cases b;exact cE T A0 F6.f s6 rfl rfl b6
  |7,b=>cases b;exact cE T A0 F7.f s7 rfl rfl b7
  |8,b=>cases b;exact cE T A0 F8.f s8 rfl rfl b8
  |9,b=>cases b;exact cE T A0 F9.f s9 rfl rfl b9
  |10,b=>cases b;exact cE T A0 Ul.f Wt rfl rfl H
  |11,b=>cases b;exact cE T A0 Um.f K1 rfl rfl I
  |12,b=>cases b;exact cE T A0 Uo.f s12 rfl rfl J
  |13,b=>cases b;exact cE T A0 Up.f s13 rfl rfl L
  |14,b=>cases b;exact cE T A0 Uq.f s14 rfl rfl M
  |15,b=>cases b;exact cE T A0 Ur.f s15 rfl rfl N
  |16,b=>cases b;exact cE T A0 Us.f s16 rfl rfl Q
  |17,b=>cases b;exact cE T A0 Ut.f s17 rfl rfl Z
  |18,b=>cases b;exact cE T A0 Uu.f s18 rfl rfl b18
  |19,b=>cases b;exact cE T A0 Uv.f s19 rfl rfl b19
  |20,b=>cases b;exact cE T A0 Uw.f s20 rfl rfl b20
  |21,b=>cases b;exact cE T A0 Ux.f s21 rfl rfl b21
  |22,b=>cases b;exact cE T A0 Uy.f s22 rfl rfl b22
  |23,b=>cases b;exact Jp (ix:=4) (nc:=3) T A0 A1 R kc Uz.f s23 rfl rfl rfl (u0 (cl:=cl)).2.2.2.2.2.2 rfl rfl rfl rfl
  |24,b=>cases b;exact cE T A0 HW.f s24 rfl rfl b23
  |25,b=>cases b;exact cE T A0 Bq.f XA rfl rfl b24
  |26,b=>cases b;exact cE T A0 C7.f s26 rfl rfl b25
  |27,b=>cases b;exact cE T A0 C8.f s27 rfl rfl b26
  |28,b=>cases b;exact cE T A0 C9.f s28 rfl rfl b27
  |29,b=>cases b;exact cE T A0 Dc.f s29 rfl rfl b28
  |30,b=>cases b;exact cE T A0 Br.f XH rfl rfl b29
  |31,b=>cases b;exact cE T A0 Bs.f XJ rfl rfl b30
  |32,b=>cases b;exact cE T A0 Bt.f XM rfl rfl b31
  |33,b=>cases b;exact cE T A0 De.f s33 rfl rfl b32
  |j+34,b=>exact nomatch (show(none:Option FI)=some i from b)
 .match f,b,g with
  |7,b,_=>cases b;exact rP (i:=i7 aa dd) T A0 A1 hz A F7.f s7 rfl rfl (u0 (cl:=cl)).2.1
  |25,b,_=>cases b;exact rP (i:=Ue aa dd) T A0 A1 hz A Bq.f XA rfl rfl (u0 (cl:=cl)).2.2.1
  |30,b,_=>cases b;exact rP (i:=Ug aa dd) T A0 A1 hz A Br.f XH rfl rfl (u0 (cl:=cl)).2.2.2.1
  |31,b,_=>cases b;exact rP (i:=Uh aa dd) T A0 A1 hz A Bs.f XJ rfl rfl (u0 (cl:=cl)).2.2.2.2.1
  |32,b,_=>cases b;exact rP (i:=Ui aa dd) T A0 A1 hz A Bt.f XM rfl rfl (u0 (cl:=cl)).2.2.2.2.2.1
  |0,_,g|1,_,g|2,_,g|3,_,g|4,_,g|5,_,g|6,_,g|8,_,g|9,_,g|10,_,g|11,_,g|12,_,g|13,_,g|14,_,g|15,_,g|16,_,g|17,_,g|18,_,g|19,_,g|20,_,g|21,_,g|22,_,g|23,_,g|24,_,g|26,_,g|27,_,g|28,_,g|29,_,g|33,_,g=>exact absurd g (by decide)
  |j+34,b,_=>exact nomatch (show(none:Option FI)=some i from b)
end Lw
namespace Lg
open Pv
open Lw (prog Mp Mq qA)
open Ev (deep big rep cut bz aY)
def nS(s:Θ):Pv.cop .ne (.str s) (.str s)=some false:=by rw[jQ];simp
def nI(i:Int):Pv.cop .ne (.int i) (.int i)=some false:=by rw[Em];simp
def V2(i:Int):Ev.cK 80 i=true:=by simp[Ev.cK]
theorem wC{d:Nat}:∀(c:Kk) (t:Θ),d∈aB c t->d∈t\/∃s,Pt.put s∈c/\d∈s
 |[],t,h=>by simp[aB]at h
 |.put s :: c,t,h=>by
  simp only[aB,acd]at h;rcases h with h|h
  .exact .inr ⟨s,by simp,h⟩
  .rcases wC c t h with q|⟨u,a,b⟩
   .exact .inl q
   .exact .inr ⟨u,by simp[a],b⟩
 |.keep k :: c,t,h=>by
  simp only[aB,acd]at h;rcases h with h|h
  .exact .inl (List.mem_of_mem_take h)
  .rcases wC c _ h with q|⟨u,a,b⟩
   .exact .inl (abG q)
   .exact .inr ⟨u,by simp[a],b⟩
 |.drop s :: c,t,h=>by
  simp only[aB]at h;rcases wC c _ h with q|⟨u,a,b⟩
  .exact .inl (abG q)
  .exact .inr ⟨u,by simp[a],b⟩
theorem wD{d:Nat}{s:Θ}(hd:d∈s):∀(c:Kk) (t:Θ),aS c t=true->Pt.drop s∈c->d∈t
 |.put _ :: c,t,h,m=>by
  simp only[aS]at h;rcases qE m with m|m
  .cases m
  .exact wD hd c t h m
 |.keep k :: c,t,h,m=>by
  simp only[aS,Bg]at h;rcases qE m with m|m
  .cases m
  .exact abG (wD hd c _ h.2 m)
 |.drop u :: c,t,h,m=>by
  simp only[aS,Bg,List.isPrefixOf_iff_prefix]at h;rcases qE m with m|m
  .cases m;obtain⟨r,e⟩:=h.1;rw[<-e];exact abl _ hd
  .exact abG (wD hd c _ h.2 m)
def V3(ns:Q1):113∉txt ns 0 5:=λh=>by
 unfold txt at h;obtain⟨k,-,e⟩:=List.mem_map.mp h;generalize (dg ns (0+1+(k:Int)) 4).toNat=i at e
 match i with
 |0=>simp at e
 |1=>simp at e
 |2=>simp at e
 |3=>simp at e
 |i+4=>simp at e
structure Gr(t:Θ)(j:Nat)(rs:List Row)(u:Θ):Prop where
 ch:Ch t (bM rs)
 tx:dN t (bM rs)=u
 rl:rs.length<=j
 ln:∀r∈rs,r.2.length<=900
 tl:u.length<=27+12*j
 tt:dW (bM rs)<=6*(j*j)+42*j
 nq:113∉u
def Gr.mono{t:Θ}{j k:Nat}{rs:List Row}{u:Θ}(h:Gr t j rs u)(z:j<=k):Gr t k rs u:=by
 have a:=h.tt;have b:j*j<=k*k:=acQ z z;exact⟨h.ch,h.tx,aaN h.rl z,h.ln,by have:=h.tl;lia,by lia,h.nq⟩
def Gr.tb{t:Θ}{j:Nat}{rs:List Row}{u:Θ}(z:j<=9)(h:Gr t j rs u):dW (bM rs)<=864:=by
 have a:=h.tt;have b:j*j<=9*9:=acQ z z;lia
def Gr.rw{t:Θ}{j:Nat}{rs:List Row}{u:Θ}(I:t.length<=5)(z:j<=9)(h:Gr t j rs u):wm t rs:=⟨h.ch,h.ln,by have:=h.tb z;lia⟩
def Gr.sq{t:Θ}{j:Nat}{rs K:List Row}{u:Θ}(z:j<=9)(h:Gr t j rs u)(N:Nm t rs K):Gr t j K u:=
 ⟨N.ch,N.tx.trans h.tx,aaN N.ln h.rl,λq a=>by
  have b:=ED a;have c:=f_len (N.fm q a).1;have d:=N.tt;have e:=h.tb z;lia,h.tl,aaN N.tt h.tt,h.nq⟩
def Gr.sn{t:Θ}{j:Nat}{rs:List Row}{u o:Θ}{c:Kk}(h:Gr t j rs u)(f1:aS c u=true)(f2:c.length<=14)(f3:tot c<=u.length+21)(f4:(aB c u).length<=u.length+12\/(aB c u).length<=27)(f5:Hy c):Gr t (j+1) (rs++[(o,c)]) (aB c u):=by
 have b:=jW t rs (o,c);rw[h.tx]at b;have d:=lV rs (o,c);simp only at b d;have g:=h.tl;have k:=h.tt;have p:(j+1)*(j+1)=j*j+2*j+1:=by rw[Nat.mul_add,Nat.add_mul];lia
 exact⟨tT.mpr ⟨h.ch,by rw[h.tx];exact f1⟩,b,by have:=h.rl;simp;lia,λr a=>by
  rcases k8 a with a|a
  .exact h.ln r a
  .rw[aa2]at a;subst a;simp only;lia,by lia,by rw[d];lia,λq=>by
  rcases wC c u q with q|⟨s,e,f⟩
  .exact h.nq q
  .exact f5 s e f⟩
abbrev Rw:=Θ×List Row
def gk(q:Rw):V:=.tup [.str q.1,.lst (q.2.map aZ)]
def HY(s:Lp):Rw:=(s.1,s.2.1)
def hist(S L:List Lp):List Rw:=([],[]) :: (S++L.reverse).map HY
def Bu(S L:List Lp):(hist S L).length=1+S.length+L.length:=by simp[hist];lia
def Df(S L:List Lp):∃wd,(hist S L)[S.length]?=some (wd,br S):=by
 rcases abf S with rfl|⟨S',s,e⟩
 .exact⟨[],rfl⟩
 .rw[abg]at e;subst e;rw[Bk];exact⟨s.1,by simp[hist,HY,jk,aaY]⟩
def Kq(S L:List Lp)(s:Lp):(hist (S++[s]) L)[S.length+1]?=some (s.1,s.2.1):=by simp[hist,HY]
def Kr(S L:List Lp)(s:Lp):(hist S (L++[s]))[S.length+1]?=some (s.1,s.2.1):=by simp[hist,HY]
def Dg(S L:List Lp)(s:Lp):hist (S++[s]) L=hist S (L++[s]):=by simp[hist]
def Ks(S L:List Lp)(s:Lp):(hist S L).take (S.length+1)++[HY s]=hist (S++[s]) []:=by simp[hist,acM]
structure Inv(t:Θ)(k:Nat)(S L:List Lp):Prop where
 g:∀s∈S++L,Gr t k s.2.1 s.2.2
 l:S.length+L.length<=k
 t5:t.length<=5
 q:113∉t
def Inv.cur{t:Θ}{k:Nat}{S L:List Lp}(I:Inv t k S L):Gr t k (br S) (bP t S):=by
 rcases abf S with rfl|⟨S',s,e⟩
 .exact⟨trivial,rfl,abu _,(λr a=>(List.not_mem_nil a).elim),by have:=I.t5;show t.length<=_;lia,by simp[dW,bM,br],I.q⟩
 .rw[abg]at e;subst e;rw[Bk,HL];exact I.g s (by simp)
theorem Inv.mono{t:Θ}{k:Nat}{S L:List Lp}(I:Inv t k S L):Inv t (k+1) S L:=⟨λs a=>(I.g s a).mono (by lia),by have:=I.l;lia,I.t5,I.q⟩
def Inv.new{t:Θ}{k:Nat}{S L:List Lp}{s:Lp}(I:Inv t k S L)(h:Gr t (k+1) s.2.1 s.2.2):Inv t (k+1) (S++[s]) []:=⟨λr a=>by
 rw[aaJ]at a;rcases k8 a with a|a
 .exact(I.g r (abl _ a)).mono (by lia)
 .rw[aa2]at a;subst a;exact h,by have:=I.l;simp;lia,I.t5,I.q⟩
def Inv.back{t:Θ}{k:Nat}{S L:List Lp}{s:Lp}(I:Inv t k (S++[s]) L):Inv t (k+1) S (L++[s]):=⟨λr a=>(I.g r (by simp at a ⊢;rcases a with h|h|h<;>simp[h])).mono (by lia),by have:=I.l;simp at this ⊢;lia,I.t5,I.q⟩
def Inv.V4{t:Θ}{k:Nat}{S L:List Lp}{s:Lp}(I:Inv t k S (L++[s])):Inv t (k+1) (S++[s]) L:=⟨λr a=>(I.g r (by simp at a ⊢;rcases a with h|h|h<;>simp[h])).mono (by lia),by have:=I.l;simp at this ⊢;lia,I.t5,I.q⟩
def Rf(c:Int):V:=.tup [.str [114,101,102,117,115,101,100],.int c]
def UB(c:Int):Pv.cop .ne (Rf c) (Rf c)=some false:=by
 rw[pI];show(dQ deep (.tup _) (.tup _)).map _=_;rw[xF,gy,gy,pJ,vU,rV];simp
def O3(n:Nat)(a b:Ow):dQ (n+1) a.v b.v=some (decide (a=b)):=by
 cases a<;>cases b<;>simp[Ow.v]
section
variable{w n:Nat}{t o:Θ}{S L:List Lp}{s:Lp}{v:V}
def lnS:rQ .len (S.map gE) []=some (.int ((S.map gE).length:Nat)):=rfl
def leaf:Nat->Ev.S
 |0=>.tr 25 3 (.cons (.v 0) (.cons (.v 2) (.cons (.v 3) .nil)))
 |1=>.tr 26 3 (.cons (.v 0) .nil)
 |2=>.tr 31 3 (.cons (.v 0) .nil)
 |3=>.tr 32 3 (.cons (.v 0) .nil)
 |_=>.tr 30 3 (.cons (.v 0) (.cons (.v 3) .nil))
def lY{r:V}{os:List (T0)}{P:aJ}{sa sb:Ev.Ss}{fr:Fr}(h:Wp (exs P w sa fr) λg af=>g=.ret r/\outs 4 af=os):Wp (exs P w sa fr) (nx P w sb λg af=>g=.ret r/\outs 4 af=os):=by
 obtain⟨g,af,e,rfl,a⟩:=h;exact⟨_,_,e,rfl,a⟩
def jw{x:Sl}(I:gD aP (lO t S L) x){way:Nat}(Z:way<=4){a b r:V}{z:T0}(h:Wp (ex (run prog w n) w (leaf way) [some x,some (.val (.int (way:Nat))),some (.val a),some (.val b),none]) λg af=>g=.ret r/\outs 4 af=[z]):
  run prog w (n+1) 23 [x,.val (.int (way:Nat)),.val a,.val b]=some (r,[z]):=by
 have Bv:=λk:Int=>aF (P:=run prog w n) (fr:=[some x,some (.val (.int (way:Nat))),some (.val a),some (.val b),none]) rfl (bT (au (i:=1) rfl) (aG (d:=.int k) rfl) jG) rfl;have go:∀k:Nat,way=k->Wp (exs (run prog w n) w (.cons (.exp (.fu aP .len 0 1 .nil)) (.cons (leaf k) .nil)) [some x,some (.val (.int (way:Nat))),some (.val a),some (.val b),none]) λg fr=>g=.ret r/\outs 4 fr=[z]:=λk e=>by
  subst e;obtain⟨g,af,e,rfl,c⟩:=h;exact ai (eK (kR I.i ay I.s qP lnS) (ai ⟨_,_,e,rfl,c⟩))
 refine bK (fn:=Mp) rfl rfl ?_;exact ai (aM (b:=decide ((way:Int)=0)) (Bv 0) (λe=>lY (go 0 (by lia))) λf=>lY (ai (aM (b:=decide ((way:Int)=1)) (Bv 1) (λe=>lY (go 1 (by lia))) λj=>lY (ai (aM (b:=decide ((way:Int)=2)) (Bv 2) (λe=>lY (go 2 (by lia))) λp=>lY (ai (aM (b:=decide ((way:Int)=3)) (Bv 3) (λe=>lY (go 3 (by lia))) λq=>lY (go 4 (by lia)))))))))
def UC{c:Kk}(z:aS c (bP t S)=true)(I:tot c<=2000)(Z:c.length<=2000)(b3:(bP t S).length<=2000)(b4:(br S).length<=900)(b5:S.length<=900):
  run prog w (n+5) 23 [.ob aP (lO t S L),.val (.int 0),.val (.str o),.val (aT c)]=some (.str (aB c (bP t S)),[lO t (S++[([119,114,105,116,101],br S++[(o,c)],aB c (bP t S))]) []]):=
 jw (.inl rfl) (way:=0) (by decide) (sd (fF rfl (aR rfl (au rfl) (aR rfl (au rfl) aO))) (kO2 rfl rfl (OU (F:=prog) (iT:=28) (iE:=29) (iS:=27) (aC:=0) (cS:=6) (iD:=7) (i:=25) rfl rfl rfl rfl rfl rfl rfl z I Z b3 b4 b5) rfl) ⟨rfl,rfl⟩)
def O4{c:Kk}(z:aS c (bP t S)=false)(I:tot c<=2000)(Z:(bP t S).length<=2000):
  run prog w (n+5) 23 [.ob aP (lO t S L),.val (.int 0),.val (.str o),.val (aT c)]=some (Rf 0,[lO t S L]):=
 jw (.inl rfl) (way:=0) (by decide) (wA (c:=0) (x:=.ob aP (lO t S L)) (vs:=[.str o,aT c]) (by decide) rfl rfl (.inl rfl) (fF rfl (aR rfl (au rfl) (aR rfl (au rfl) aO))) (λx a=>Kg (F:=prog) (iT:=28) (iS:=27) (iE:=29) (aC:=0) (cS:=6) (iD:=7) (i:=25) rfl rfl rfl rfl rfl z I Z a) (by decide) (by decide) rfl ⟨rfl,rfl⟩)
def UD{K:List Row}(z:run prog w (n+1) 15 [.val (.lst ((br S).map aZ))]=some (.lst (K.map aZ),[]))(I:(br S).length<=900)(Z:K.length<=900)(b5:S.length<=900):
  run prog w (n+3) 23 [.ob aP (lO t S L),.val (.int 1),.val (.str o),.val v]=some (.int (((br S).length:Nat) - (K.length:Nat)),[lO t (S++[([102,111,108,100],K,bP t S)]) []]):=
 jw (.inl rfl) (way:=1) (by decide) (sd (fF rfl aO) (oH rfl rfl (T6 (F:=prog) (iT:=28) (iE:=29) (iS:=27) (iQ:=15) (i:=26) rfl rfl rfl rfl z I Z b5) rfl) ⟨rfl,rfl⟩)
def UE(z:L.length<=1000):run prog w (n+2) 23 [.ob aP (lO t (S++[s]) L),.val (.int 2),.val (.str o),.val v]=some (.str s.1,[lO t S (L++[s])]):=
 jw (.inl rfl) (way:=2) (by decide) (sd (fF rfl aO) (oH rfl rfl (T5 (F:=prog) (p:=2) (i:=31) rfl z) rfl) ⟨rfl,rfl⟩)
def O5:run prog w (n+2) 23 [.ob aP (lO t [] L),.val (.int 2),.val (.str o),.val v]=some (Rf 2,[lO t [] L]):=
 jw (.inl rfl) (way:=2) (by decide) (wA (c:=2) (x:=.ob aP (lO t [] L)) (vs:=[]) (by decide) rfl rfl (.inl rfl) (fF rfl aO) (λx a=>OY (F:=prog) (p:=2) (i:=31) rfl (by decide) a) (by decide) (by decide) rfl ⟨rfl,rfl⟩)
def UG(z:S.length<=1000):run prog w (n+2) 23 [.ob aP (lO t S (L++[s])),.val (.int 3),.val (.str o),.val v]=some (.str s.1,[lO t (S++[s]) L]):=
 jw (.inl rfl) (way:=3) (by decide) (sd (fF rfl aO) (oH rfl rfl (OT (F:=prog) (p:=2) (i:=32) rfl z) rfl) ⟨rfl,rfl⟩)
def O6:run prog w (n+2) 23 [.ob aP (lO t S []),.val (.int 3),.val (.str o),.val v]=some (Rf 2,[lO t S []]):=
 jw (.inl rfl) (way:=3) (by decide) (wA (c:=2) (x:=.ob aP (lO t S [])) (vs:=[]) (by decide) rfl rfl (.inl rfl) (fF rfl aO) (λx a=>Kh (F:=prog) (p:=2) (i:=32) rfl (by decide) a) (by decide) (by decide) rfl ⟨rfl,rfl⟩)
def UH(R:wm t (br S))(z:(br S).length<=100)(I:dN t (bM (br S))=bP t S){k:Nat}(Z:k<(bP t S).length):run prog w (n+10) 23 [.oq aP (lO t S L),.val (.int 4),.val (.str o),.val (.int (k:Nat))]=some (Bp t (br S) k,[lO t S L]):=
 jw (.inr rfl) (way:=4) (by decide) (sd (fF rfl (aR rfl (au rfl) aO)) (kO1 rfl rfl (VY (F:=prog) (iT:=28) (iE:=29) (aC:=0) (cS:=6) (iF:=7) (jM:=14) (jX:=13) (iO:=12) (p:=1) (i:=30) rfl rfl rfl rfl rfl rfl rfl rfl rfl R z I Z) rfl) ⟨rfl,rfl⟩)
def O7{k:Int}(z:k<0\/((bP t S).length:Int)<=k)(I:(bP t S).length<=2000):run prog w (n+3) 23 [.oq aP (lO t S L),.val (.int 4),.val (.str o),.val (.int k)]=some (Rf 1,[lO t S L]):=
 jw (.inr rfl) (way:=4) (by decide) (wA (c:=1) (x:=.oq aP (lO t S L)) (vs:=[.int k]) (by decide) rfl rfl (.inr rfl) (fF rfl (aR rfl (au rfl) aO)) (λx a=>T9 (F:=prog) (iT:=28) (iO:=12) (iE:=29) (p:=1) (i:=30) rfl rfl (by decide) z I a) (by decide) (by decide) rfl ⟨rfl,rfl⟩)
end
def lF(ns:Q1)(t:Θ)(O:T0)(z:T2)(a:V)(I Z x7 x8 x9 jN jD iU gw fD eS ez ek:Option V):Fr:=[some (.val (j0 ns)),some (.val (.str t)),some (.oo aP O),z,some (.val a),I.map .val,Z.map .val,x7.map .val,x8.map .val,x9.map .val,jN.map .val,jD.map .val,iU.map .val,gw.map .val,fD.map .val,eS.map .val,ez.map .val,ek.map .val,none,none]
def St(ns:Q1)(t:Θ)(k:Nat)(fr:Fr):Prop:=∃S L x3,∃z:Nat->Option V,Inv t k S L/\lv x3 ((hist S L).map gk)/\fr=lF ns t (lO t S L) x3 (.int (S.length:Nat)) (z 5) (z 6) (z 7) (z 8) (z 9) (z 10) (z 11) (z 12) (z 13) (z 14) (z 15) (z 16) (z 17)
def dS:Nat->Ev.Ss->Ev.Ss
 |0,s=>s
 |n+1,.cons _ s=>dS n s
 |_+1,.nil=>.nil
abbrev sv(v:V):Option V:=some v
def HZ(t:Θ)(rs:List Row):(gf dO rs (m0 t)).map (λm=>m.2.v)=jC t rs:=by
 unfold jC;rw[tY (λm:Mk=>m.2.v),tY Ow.v];simp[dO,m0,gW,iP,acw]
theorem oJ:∀(c:Kk) (t:Θ),cP (λs=>s) c t=aB c t
 |[],t=>rfl
 |.put s :: c,t=>by simp only[cP,aB,oJ c]
 |.keep k :: c,t=>by simp only[cP,aB,oJ c]
 |.drop s :: c,t=>by simp only[cP,aB,oJ c]
theorem Dh:∀(rs:List Row) (t:Θ),gf (λ_ s=>s) rs t=dN t (bM rs)
 |[],t=>rfl
 |r :: rs,t=>by
  show gf _ rs (cP _ r.2 t)=dN (aB r.2 t) (bM rs);rw[oJ,Dh rs]
def Ia(t:Θ)(rs:List Row):(gf dO rs (m0 t)).map (·.1)=dN t (bM rs):=by
 rw[tY (λm:Mk=>m.1),<-Dh];simp[dO,m0,acw]
section
variable{w n:Nat}{ns:Q1}{t o:Θ}{S L:List Lp}
def V5{f:V->Option (Option V)}{x y a b:V}(z:f x=some (some a))(h1:f y=some (some b)):cL f [x,y]=some [a,b]:=by
 simp only[cL,z,h1,ac9];rfl
def cT{fr:Fr}{s:Nat}{l:T0}(h2:s≠2)(z:s≠10)(I:fr[2]?=some (some (.oo aP l)))(Z:fr[10]?=some (some (.val (.str o))))(qs:fr[s]?=some none){p:Int}{v:V}(r:run prog w (n+11) 23 [.oq aP l,.val (.int 4),.val (.str o),.val (.int p)]=some (v,[l])):
  g9 (run prog w (n+11)) (.cl 23 (.cons (.v 2) (.cons (.c (.int 4)) (.cons (.v 10) (.cons (.v s) .nil))))) (.one s) .no fr (.int p)=some (some v):=by
 have g:(iZ fr)[2]?=some (some (.oq aP l)):=by simp[iZ,I,Sl.read]
 have h:(iZ fr)[10]?=some (some (.val (.str o))):=by simp[iZ,Z,Sl.read]
 have b:(iZ fr)[s]?=some none:=by simp[iZ,qs]
 have a:((iZ fr).set s (some (.val (.int p))))[2]?=some (some (.oq aP l)):=by rw[T7 h2];exact g
 have K5:((iZ fr).set s (some (.val (.int p))))[10]?=some (some (.val (.str o))):=by rw[T7 z];exact h
 have d:((iZ fr).set s (some (.val (.int p))))[s]?=some (some (.val (.int p))):=by rw[WV (gL b).1]
 have f:∀{j:Nat} {v:V},((iZ fr).set s (some (.val (.int p))))[j]?=some (some (.val v))->jK ((iZ fr).set s (some (.val (.int p)))) (.v j)=none:=λ{j v} e=>by
  show(if (lent _ j).isSome then some j else none)=none;have:lent ((iZ fr).set s (some (.val (.int p)))) j=none:=by unfold lent;rw[e];rfl
  rw[this];rfl
 exact kD (bind1 b .none) (cR (as:=[.inl 2,.inr (.int 4),.inr (.str o),.inr (.int p)]) (af:=(iZ fr).set s (some (.val (.int p)))) (fF (gD.v (.inr rfl) a) (aR rfl (aG rfl) (aR (f K5) (au (by unfold jS;rw[K5])) (aR (f d) (au (by unfold jS;rw[d])) aO)))) (Mm a rfl r (sets a)))
def tail{k:Nat}(hk:k<=9)(I:Inv t k S L){O:T0}{x3:T2}(h3:lv x3 ((hist S L).map gk)){way:Int}{th due:V}(hT:run prog w (n+11) 23 [.ob aP O,.val (.int way),.val (.str o),.val th]=some (due,[lO t S L]))(hd:Pv.cop .ne due due=some false){x5 x6 x7 x8 iU fD eS ez ek:Option V}{Q:Fl->Fr->Prop}(fin:∀fr,St ns t k fr->Q .nx fr):
  Wp (exs (run prog w (n+11)) w (dS 8 qA) (lF ns t O x3 (.int (S.length:Nat)) x5 x6 x7 x8 (sv (.int way)) (sv (.str o)) (sv th) iU (sv due) fD eS ez ek)) Q:=by
 have G:=I.cur;have RS:=G.rw I.t5 hk;have d:=G.tx;have rl:=G.rl;have tl:=G.tl;have il:=I.l;obtain⟨g,h⟩:=Df S L;have ZR:((hist S L).map gk)[S.length]?=some (gk (g,br S)):=by rw[aaU,h];rfl
 have Mu:fy (.lst ((hist S L).map gk)) (.int (S.length:Nat))=some (gk (g,br S)):=by
  show bz _ ((S.length:Nat):Int)=_;rw[mP];exact ZR
 have Mv:fy (gk (g,br S)) (.int 1)=some (.lst ((br S).map aZ)):=rfl;have B:=Ka (F:=prog) (i:=33) (w:=w) (n:=n+10) (t:=t) (S:=S) (L:=L) rfl;have C:=pN (F:=prog) (i:=28) (w:=w) (n:=n+10) (t:=t) (S:=S) (L:=L) rfl (.inl rfl);have J:=wo (F:=prog) (i:=29) (w:=w) (n:=n+10) (t:=t) (S:=S) (L:=L) rfl (by lia) (.inl rfl);have mk:=λfr=>call2 (fr:=fr) (yX (F:=prog) (i:=22) (w:=w) (n:=n+10) rfl RS);rw[HZ,Ia,d]at mk;have j:cZ .len [.lst ((hist S L).map gk)]=some (.int ((1+S.length+L.length:Nat):Int)):=by rw[kQ,aaP,Bu]
 have K:(jC t (br S)).length=(bP t S).length:=by rw[C6,d]
 have Ys:cZ .len [.lst (jC t (br S))]=some (.int ((bP t S).length:Nat)):=by rw[kQ,K]
 have N:∀fr:Fr,fr[2]?=some (some (.oo aP (lO t S L)))->fr[10]?=some (some (.val (.str o)))->fr[18]?=some none->cL (g9 (run prog w (n+11)) (.cl 23 (.cons (.v 2) (.cons (.c (.int 4)) (.cons (.v 10) (.cons (.v 18) .nil))))) (.one 18) .no fr) (range 0 (min 9 (bP t S).length))=some ((jC t (br S)).take 9):=λfr q Ib r=>by
  refine(gr (λ(i:Nat)=>V.int (0+i)) (Bp t (br S)) (List.range (min 9 (bP t S).length)) λp x=>by
   rw[List.mem_range]at x;exact cT (by decide) (by decide) q Ib r (by rw[ac6];exact UH (w:=w) (n:=n+1) (o:=o) (L:=L) RS (by lia) d (k:=p) (by lia))).trans (aaL some ?_)
  apply abv;intro i;by_cases P:i<min 9 (bP t S).length
  .rw[aaU,abM P,adh (by lia),VW (by lia)];show some (Bp t (br S) i)=_;unfold Bp;rw[acV,VW (by lia)];rfl
  .rw[aaO (by simp;lia),aaO (by simp;lia)]
 have W:∀fr:Fr,fr[2]?=some (some (.oo aP (lO t S L)))->fr[10]?=some (some (.val (.str o)))->fr[19]?=some none->cL (g9 (run prog w (n+11)) (.cl 23 (.cons (.v 2) (.cons (.c (.int 4)) (.cons (.v 10) (.cons (.v 19) .nil))))) (.one 19) .no fr) [.int (-1),.int ((bP t S).length:Nat)]=some [Rf 1,Rf 1]:=λfr q Ib y=>
  have one:=λp x=>cT (by decide) (by decide) q Ib y (O7 (w:=w) (n:=n+8) (t:=t) (S:=S) (L:=L) (o:=o) (k:=p) x (by lia))
  V5 (one _ (.inl (by decide))) (one _ (.inr (Int.le_refl _)))
 have X:Pv.cop .ne (.tup [.int (S.length:Nat),.int (L.length:Nat)]) (.tup [.int (S.length:Nat),.int (((1+S.length+L.length:Nat):Int) - 1 - (S.length:Nat))])=some false:=by
  rw[show((1+S.length+L.length:Nat):Int) - 1 - (S.length:Nat)=(L.length:Nat)by lia,pI,xF,gy,gy,pJ,rV,rV];simp
 have Y:cZ .min [.int 9,.int ((bP t S).length:Nat)]=some (.int ((min 9 (bP t S).length:Nat):Int)):=by
  rw[AH];congr 2;split<;>lia
 have Z:gH [.int ((min 9 (bP t S).length:Nat):Int)]=some (range 0 (min 9 (bP t S).length)):=JN (by lia) rfl;have Yt:eV ((jC t (br S)).take 9)=some (.lst ((jC t (br S)).take 9)):=cW (bE (by simp;lia));have z:fQ (.lst (jC t (br S))) none (some 9)=some (.lst ((jC t (br S)).take 9)):=by
  rw[CG,show cut (jC t (br S)) none (some 9)=(jC t (br S)).take 9 from zz _ 9];exact Yt
 have nO:Pv.cop .ne (.lst ((jC t (br S)).take 9)) (.lst ((jC t (br S)).take 9))=some false:=by
  unfold jC;rw[<-ab3,pI,xG,pK (O3 18)];simp
 have mR:Pv.bO .mul (.lst [Rf 1]) (.int 2)=some (.lst [Rf 1,Rf 1]):=Jz (by decide) (by decide) (by simp) (by decide);have A:Pv.cop .ne (.lst [Rf 1,Rf 1]) (.lst [Rf 1,Rf 1])=some false:=by
  have e:dQ (18+1) (Rf 1) (Rf 1)=some true:=by
   show dQ (18+1) (.tup _) (.tup _)=_;rw[SE,gy,gy,pJ,vU,rV];simp
  rw[pI,xG,gy,gy,pJ,e];rfl
 have nE:=nR (br S);replace fin:=λYu Yv Yw=>fin (lF ns t (lO t S L) x3 (.int (S.length:Nat)) x5 x6 x7 x8 (sv (.int way)) (sv (.str o)) (sv th) iU (sv due) fD Yu Yv Yw) ⟨S,L,x3,λi=>[x5,x6,x7,x8,sv (.int way),sv (.str o),sv th,iU,sv due,fD,Yu,Yv,Yw].getD (i - 5) none,I,h3,rfl⟩;generalize jC t (br S)=M at *
 generalize (br S).map aZ=EV at *
 generalize (hist S L).map gk=H at *
 let f:=λO eS ez ek=>lF ns t O x3 (.int (S.length:Nat)) x5 x6 x7 x8 (sv (.int way)) (sv (.str o)) (sv th) iU (sv due) fD eS ez ek
 have b3:∀(a b:V),cC (.many [15,16,17]) (.tup [.lst M,a,b]) (f (lO t S L) eS ez ek)=some (f (lO t S L) (sv (.lst M)) (sv a) (sv b)):=λa b=>by
  show((put (f (lO t S L) eS ez ek) 15 (.val (.lst M))).bind λfr=>(put fr 16 (.val a)).bind λfr=>(put fr 17 (.val b)).bind λfr=>some fr)=_;rw[bZ rfl vm];show((put (f (lO t S L) (sv (.lst M)) ez ek) 16 (.val a)).bind λfr=>(put fr 17 (.val b)).bind λfr=>some fr)=_;rw[bZ rfl vm];show((put (f (lO t S L) (sv (.lst M)) (sv a) ek) 17 (.val b)).bind λfr=>some fr)=_;rw[bZ rfl vm];rfl
 generalize lO t S L=O2 at *
 refine je (af:=f O2 eS ez ek) (aF rfl (bT (cR (fF rfl (aR rfl (au rfl) (aR rfl (au rfl) (aR rfl (au rfl) aO)))) (Mm (ao:=f O2 eS ez ek) rfl rfl hT rfl)) (au rfl) hd) rfl) ?_;refine je (af:=f O2 eS ez ek) (aF rfl (bT (ju (J9 (c:=aP) (l:=O2)) (fF rfl aO) (oH (ao:=f O2 eS ez ek) rfl rfl B rfl)) (cF (aq (au rfl) (aq (aU (aU (eF (aq (nM rfl rfl h3) ay) j) (aG rfl) jT) (au rfl) jT) ay)) eH) X) rfl) ?_;refine ai (Ti (cR (aR rfl (au rfl) (aR rfl (cG (cG (nM rfl rfl h3) (au rfl) Mu) (aG rfl) Mv) aO)) (mk _)) (b3 _ _) ?_);refine je (nK (aF rfl (bT (ju (J9 (c:=aP) (l:=O2)) (fF rfl aO) (oH rfl rfl C rfl)) (au rfl) (nS _)) rfl) (aF rfl (bT (ju (J9 (c:=aP) (l:=O2)) (fF rfl aO) (oH rfl rfl J rfl)) (cG (cG (nM rfl rfl h3) (au rfl) Mu) (aG rfl) Mv) nE) rfl)) ?_;refine je (aF rfl (bT (jc (vX (aq (eF (aq (aG rfl) (aq (eF (aq (au rfl) ay) Ys) ay)) Y) ay) Z) rfl (N _ rfl rfl rfl) Yt) (oU (au rfl) vW (fW (aG rfl)) z) nO) rfl) ?_;refine je (aF rfl (bT (jc (ef (cF (k:=true) (aq (mG (aG rfl)) (aq (eF (aq (au rfl) ay) Ys) ay)) eH) rfl) rfl (W _ rfl rfl rfl) zq) (aU (fB (aq (cF (aq (aG rfl) (aq (aG rfl) ay)) eH) ay) qf) (aG rfl) mR) A) rfl) ?_;exact aD (fin _ _ _)
def V6{P:aJ}{k:Bool}{fr af I:Fr}{o p:Ev.bA}{a b c:Ev.E}{x y z:V}{b1 Z:Bool}(h1:ev P (kf a (aL b)) a fr=.ok x af)(h2:ev P (kf b (aL c)) b af=.ok y I)(h3:cop o x y=some b1)(h4:b1=true->ev P true c I=.ok z I/\cop p y z=some Z)(h5:b1=false->Z=false):ev P k (.ch o p a b c) fr=.ok (.bl Z) I:=by
 rw[VC,h1,ak,h2,ak,h3];show(R.ok b1 I).bind _=_;rw[ak];cases b1 with
 |false=>rw[h5 rfl];rfl
 |true=>obtain⟨d,e⟩:=h4 rfl;rw[OL rfl,d,ak,e];rfl
def there{ns:Q1}{O:T0}{I:T2}{H:T0}(h3:lv I H){a N:Nat}(hN:H.length=N)(hb:N<=1000){z j8:Int}{due a':V}{b:Bool}(hw:z=2\/z=3)(ht:(if z=2 then (a:Int) - 1 else (a:Int)+1)=j8)(eb:b=(decide (0<=j8)&&decide (j8<N)))(h1:b=true->∃q,fy (.lst H) (.int (if j8 > (a:Int)then j8 else (a:Int)))=some q/\fy q (.int 0)=some due/\a'=.int j8)(h0:b=false->due=Rf 2/\a'=.int (a:Int)){Z x6 x7 x8 jN jD iU gw fD eS ez ek:Option V}{Q:Fl->Fr->Prop}(q:Wp (exs (run prog w (n+11)) w (dS 8 qA) (lF ns t O I a' Z x6 x7 x8 (sv (.int z)) jN jD (sv (.int j8)) (sv due) fD eS ez ek)) Q):
  Wp (exs (run prog w (n+11)) w (dS 7 qA) (lF ns t O I (.int (a:Nat)) Z x6 x7 x8 (sv (.int z)) jN jD iU gw fD eS ez ek)) Q:=by
 have d:cZ .len [.lst H]=some (.int (N:Nat)):=by rw[kQ,hN]
 have Bv:∀(gw:Option V),bB (run prog w (n+11)) (.ch .le .lt (.c (.int 0)) (.v 12) (.bi .len (.cons (.v 3) .nil))) (lF ns t O I (.int (a:Nat)) Z x6 x7 x8 (sv (.int z)) jN jD (sv (.int j8)) gw fD eS ez ek)=.ok b (lF ns t O I (.int (a:Nat)) Z x6 x7 x8 (sv (.int z)) jN jD (sv (.int j8)) gw fD eS ez ek):=λgw=>
  aF rfl (V6 (b1:=decide (0<=j8)) (aG rfl) (au rfl) Tj (λh=>⟨eF (aq (nM rfl rfl h3) ay) d,by rw[xN,eb,h];simp⟩) (λh=>by rw[eb,h];rfl)) rfl
 have f:ev (run prog w (n+11)) false (.fV (.cmp .eq (.v 9) (.c (.int 2))) (.bin .sub (.v 4) (.c (.int 1))) (.bin .add (.v 4) (.c (.int 1)))) (lF ns t O I (.int (a:Nat)) Z x6 x7 x8 (sv (.int z)) jN jD iU gw fD eS ez ek)=.ok (.int j8) (lF ns t O I (.int (a:Nat)) Z x6 x7 x8 (sv (.int z)) jN jD iU gw fD eS ez ek):=by
  rcases hw with rfl|rfl
  .rw[OL rfl]at ht;subst ht;exact fC (b:=true) (fL rfl rfl jG rfl) (λ_=>aU (au rfl) (aG rfl) jT) λh=>absurd h (by decide)
  .rw[aaH (by decide)]at ht;subst ht;exact fC (b:=false) (fL rfl rfl jG rfl) (zS ·) λ_=>aU (au rfl) (aG rfl) cj
 refine ai (aM (b:=true) (af:=lF ns t O I (.int (a:Nat)) Z x6 x7 x8 (sv (.int z)) jN jD iU gw fD eS ez ek) (aF rfl (bT (au rfl) (aG rfl) ql) (by rcases hw with rfl|rfl<;>rfl)) (λ_=>?_) λh=>absurd h (by decide));refine ai (aK (ao:=lF ns t O I (.int (a:Nat)) Z x6 x7 x8 (sv (.int z)) jN jD (sv (.int j8)) gw fD eS ez ek) f rfl (bZ rfl vm) ?_);refine ai (aK (v:=due) (af:=lF ns t O I (.int (a:Nat)) Z x6 x7 x8 (sv (.int z)) jN jD (sv (.int j8)) gw fD eS ez ek) (ao:=lF ns t O I (.int (a:Nat)) Z x6 x7 x8 (sv (.int z)) jN jD (sv (.int j8)) (sv due) fD eS ez ek) (fC (Bv gw) (λh=>?_) λh=>?_) rfl (bZ rfl vm) ?_)
 .obtain⟨q,g,j,-⟩:=h1 h;exact cG (cG (nM rfl rfl h3) (eF (aq (au rfl) (aq (au rfl) ay)) G0) g) (aG rfl) j
 .rw[(h0 h).1];exact cF (aq (aG rfl) (aq (aG rfl) ay)) eH
 refine ai (aK (v:=a') (af:=lF ns t O I (.int (a:Nat)) Z x6 x7 x8 (sv (.int z)) jN jD (sv (.int j8)) (sv due) fD eS ez ek) (ao:=lF ns t O I a' Z x6 x7 x8 (sv (.int z)) jN jD (sv (.int j8)) (sv due) fD eS ez ek) (fC (Bv _) (λh=>?_) λh=>?_) rfl rfl (aD q))
 .obtain⟨_,_,_,e⟩:=h1 h;rw[e];exact au rfl
 .rw[(h0 h).2];exact au rfl
def mid(hw:5000<w){k:Nat}(hk:k<9)(I:Inv t k S L){x3:T2}(h3:lv x3 ((hist S L).map gk)){Z:Int}(Ku:Z=0\/Z=1\/Z=2\/Z=3){c:Kk}{sb:Bool}{X:V}(b1:tot c<=1000)(b2:c.length<=1000)(sl:fQ (aT c) (some (-1)) none=some X)(se:Pv.cop .eq X (.tup [.tup [.str [100,114,111,112],.str [113]]])=some sb)(hs:sb=true->aS c (bP t S)=false)(hf:sb=false->aS c (bP t S)=true/\c.length<=14/\tot c<=(bP t S).length+21/\((aB c (bP t S)).length<=(bP t S).length+12\/(aB c (bP t S)).length<=27)/\Hy c){x5 x6 iU gw fD eS ez ek:Option V}{Q:Fl->Fr->Prop}(fin:∀fr,St ns t (k+1) fr->Q .nx fr):
    Wp (exs (run prog w (n+11)) w (dS 7 qA) (lF ns t (lO t S L) x3 (.int (S.length:Nat)) x5 x6 (sv (.lst ((br S).map aZ))) (sv (.str (bP t S))) (sv (.int Z)) (sv (.str o)) (sv (aT c)) iU gw fD eS ez ek)) Q:=by
  have G:=I.cur;have RS:=G.rw I.t5 (by lia);have K:=G.tx;have M:=G.rl;have tl:=G.tl;have P:=I.l;have A:=Bu S L;have g:((hist S L).map gk).length=1+S.length+L.length:=by rw[aaP,A]
  have r:∀(i:Nat) (q:Rw),(hist S L)[i]?=some q->fy (.lst ((hist S L).map gk)) (.int (i:Nat))=some (gk q):=λi q h=>by
    show bz _ ((i:Nat):Int)=_;rw[mP,aaU,h];rfl
  have x:cZ .len [.lst ((br S).map aZ)]=some (.int ((br S).length:Nat)):=by rw[kQ,aaP]
  have Yx:fQ (.lst ((hist S L).map gk)) none (some ((S.length:Int)+1))=some (.lst (((hist S L).take (S.length+1)).map gk)):=by
    rw[CG,show cut ((hist S L).map gk) none (some ((S.length:Int)+1))=((hist S L).map gk).take (S.length+1)from zz _ (S.length+1),<-ab3];exact cW (bE (by simp;lia))
  have Yy:∀s:Lp,Pv.bO .add (.lst (((hist S L).take (S.length+1)).map gk)) (.lst [.tup [.str s.1,.lst (s.2.1.map aZ)]])=some (.lst ((hist (S++[s]) []).map gk)):=λs=>by
    rw[kP (by simp;lia),<-Ks,aaG];rfl
  have j:∀s:Lp,((S.length:Int)+1)=(((S++[s]).length:Nat):Int):=λs=>by simp
  have p:(k+1)<=9:=by lia
  let f:=λx3 Z gw fD=>lF ns t (lO t S L) x3 (.int (S.length:Nat)) x5 x6 (sv (.lst ((br S).map aZ))) (sv (.str (bP t S))) (sv (.int Z)) (sv (.str o)) (sv (aT c)) iU gw fD eS ez ek
  rcases Ku with rfl|rfl|rfl|rfl
  ·
    refine ai (aM (b:=false) (fL rfl rfl ql rfl) (zS ·) λ_=>ai (aM (b:=sb) (jd (fL rfl rfl jG rfl) (aF rfl (bT (oU (au rfl) (fW (mG (aG rfl))) vW sl) (cF (aq (cF (aq (aG rfl) (aq (aG rfl) ay)) eH) ay) om) se) rfl)) (λh=>?_) λh=>?_))
    . refine ai (aK (ao:=f x3 0 (sv (Rf 0)) fD) (cF (aq (aG rfl) (aq (aG rfl) ay)) eH) rfl (bZ rfl vm) (aD (aD ?_)));exact tail (n:=n) (by lia) I.mono h3 (O4 (n:=n+6) (hs h) (by lia) (by lia)) (UB 0) fin
    . obtain⟨f1,f2,f3,f4,f5⟩:=hf h
      let s:Lp:=([119,114,105,116,101],br S++[(o,c)],aB c (bP t S))
      have G2:=G.sn (o:=o) f1 f2 f3 f4 f5;have I2:Inv t (k+1) (S++[s]) []:=I.new G2;have B:=λfr=>call2 (fr:=fr) (J8 (F:=prog) (i:=20) (w:=w) (n:=n+10) rfl c (bP t S) (by lia) (by lia) f1);have C:Pv.bO .add (.lst ((br S).map aZ)) (.lst [.tup [.str o,aT c]])=some (.lst ((br S++[(o,c)]).map aZ)):=by
        rw[kP (by simp;lia),aaG];rfl
      have y:=Yy s;have tw:=UC (w:=w) (n:=n+6) (L:=L) (o:=o) f1 (by lia) (by lia) (by lia) (by lia) (by lia);have j:=j s;refine ai (aK (ao:=f x3 0 gw (sv (.lst ((br S++[(o,c)]).map aZ)))) (fC (b:=true) (fL rfl rfl jG rfl) (λ_=>aU (au rfl) (fB (aq (cF (aq (au rfl) (aq (au rfl) ay)) eH) ay) qf) C) λh=>absurd h (by decide)) rfl (bZ rfl vm) ?_);refine ai (aK (ao:=f x3 0 (sv (.str (aB c (bP t S)))) (sv (.lst ((br S++[(o,c)]).map aZ)))) (fC (b:=true) (fL rfl rfl jG rfl) (λ_=>cR (aR rfl (au rfl) (aR rfl (au rfl) aO)) (B _)) λh=>absurd h (by decide)) rfl (bZ rfl vm) ?_);refine ai (aK (ao:=f (some (.val (.lst ((hist (S++[s]) []).map gk)))) 0 (sv (.str (aB c (bP t S)))) (sv (.lst ((br S++[(o,c)]).map aZ)))) (aU (oU (nM rfl rfl h3) vW (fW (aU (au rfl) (aG rfl) cj)) Yx) (fB (aq (cF (aq (cG (fB (aq (aG rfl) (aq (aG rfl) ay)) zq) (au rfl) rfl) (aq (au rfl) ay)) eH) ay) qf) y) rfl (sy rfl h3) ?_);refine ai (aK (v:=.int (((S++[s]).length:Nat):Int)) (aU (au rfl) (aG rfl) (by rw[<-j];exact cj)) rfl rfl (aD (aD ?_)));exact tail (n:=n) p I2 .val tw (nS _) fin
  ·
    let s:Lp:=([102,111,108,100],dw t (br S),bP t S)
    obtain⟨q,N⟩:=sG (F:=prog) (aC:=0) (lW:=3) (bQ:=5) (bX:=4) (cJ:=1) (dG:=2) (gU:=8) (dD:=9) (bF:=10) (cI:=11) (i:=15) (w:=w) (n:=n+3) rfl rfl rfl rfl rfl rfl rfl rfl rfl rfl rfl hw RS (by lia) .val;obtain⟨H,-⟩:=sG (F:=prog) (aC:=0) (lW:=3) (bQ:=5) (bX:=4) (cJ:=1) (dG:=2) (gU:=8) (dD:=9) (bF:=10) (cI:=11) (i:=15) (w:=w) (n:=n+1) rfl rfl rfl rfl rfl rfl rfl rfl rfl rfl rfl hw RS (by lia) .val;have W:=N.ln;have G2:Gr t (k+1) (dw t (br S)) (bP t S):=(G.sq (by lia) N).mono (by lia);have I2:Inv t (k+1) (S++[s]) []:=I.new G2;have y:=Yy s;have J:=UD (w:=w) (n:=n+8) (t:=t) (L:=L) (o:=o) (v:=aT c) H (by lia) (by lia) (by lia);have j:=j s;have z:cZ .len [.lst ((dw t (br S)).map aZ)]=some (.int ((dw t (br S)).length:Nat)):=by rw[kQ,aaP]
    refine ai (aM (b:=false) (fL rfl rfl ql rfl) (zS ·) λ_=>ai (aM (b:=false) (r8 (fL rfl rfl jG rfl)) (zS ·) λ_=>?_));refine ai (aK (ao:=f x3 1 gw (sv (.lst ((dw t (br S)).map aZ)))) (fC (b:=false) (fL rfl rfl jG rfl) (zS ·) λ_=>cR (aR rfl (au rfl) aO) (ig q)) rfl (bZ rfl vm) ?_);refine ai (aK (ao:=f x3 1 (sv (.int (((br S).length:Nat) - ((dw t (br S)).length:Nat)))) (sv (.lst ((dw t (br S)).map aZ)))) (fC (b:=false) (fL rfl rfl jG rfl) (zS ·) λ_=>aU (eF (aq (au rfl) ay) x) (eF (aq (au rfl) ay) z) jT) rfl (bZ rfl vm) ?_);refine ai (aK (ao:=f (some (.val (.lst ((hist (S++[s]) []).map gk)))) 1 (sv (.int (((br S).length:Nat) - ((dw t (br S)).length:Nat)))) (sv (.lst ((dw t (br S)).map aZ)))) (aU (oU (nM rfl rfl h3) vW (fW (aU (au rfl) (aG rfl) cj)) Yx) (fB (aq (cF (aq (cG (fB (aq (aG rfl) (aq (aG rfl) ay)) zq) (au rfl) rfl) (aq (au rfl) ay)) eH) ay) qf) y) rfl (sy rfl h3) ?_);refine ai (aK (v:=.int (((S++[s]).length:Nat):Int)) (aU (au rfl) (aG rfl) (by rw[<-j];exact cj)) rfl rfl (aD (aD ?_)));exact tail (n:=n) p I2 .val J (nI _) fin
  ·
    rcases abf S with e|⟨S',s,e⟩
    . subst e;refine there (b:=false) (j8:=-1) (due:=Rf 2) (a':=.int ((([]:List Lp).length:Nat):Int)) (a:=([]:List Lp).length) h3 g (by lia) (.inl rfl) rfl (by simp) (zS ·) (λ_=>⟨rfl,rfl⟩) ?_;exact tail (n:=n) p I.mono h3 (O5 (n:=n+9)) (UB 2) fin
    . rw[abg]at e;subst e;have Pe:((S'++[s]).length:Int) - 1=(S'.length:Nat):=by simp
      refine there (b:=true) (j8:=(S'.length:Nat)) (due:=.str s.1) (a':=.int (S'.length:Nat)) (a:=(S'++[s]).length) h3 g (by lia) (.inl rfl) (by rw[OL rfl,Pe]) (by simp;lia) (λ_=>⟨gk (s.1,s.2.1),?_,rfl,rfl⟩) (zS ·) ?_
      . rw[aaH (by simp;lia)];rw[show(((S'++[s]).length:Nat):Int)=((S'.length+1:Nat):Int)by simp];exact r _ _ (Kq S' L s)
      . have d:=h3;rw[Dg]at d;exact tail (n:=n) p I.back d (UE (n:=n+9) (by lia)) (nS _) fin
  ·
    rcases abf L with e|⟨L',s,e⟩
    . subst e;refine there (b:=false) (j8:=(S.length:Int)+1) (due:=Rf 2) (a':=.int (S.length:Nat)) (a:=S.length) h3 g (by lia) (.inr rfl) rfl (by simp;lia) (zS ·) (λ_=>⟨rfl,rfl⟩) ?_;exact tail (n:=n) p I.mono h3 (O6 (n:=n+9)) (UB 2) fin
    . rw[abg]at e;subst e;refine there (b:=true) (j8:=((S.length+1:Nat):Int)) (due:=.str s.1) (a':=.int (((S++[s]).length:Nat):Int)) (a:=S.length) h3 g (by lia) (.inr rfl) (by rw[aaH (by decide)];simp) (by simp;lia) (λ_=>⟨gk (s.1,s.2.1),?_,rfl,by simp⟩) (zS ·) ?_
      . rw[OL (by lia)];exact r _ _ (Kr S L' s)
      . have d:=h3;rw[<-Dg]at d;exact tail (n:=n) p I.V4 d (UG (n:=n+9) (by lia)) (nS _) fin
def UI(c:Kk):cut (c.map Pt.v) (some (-1)) none=(c.drop (c.length - 1)).map Pt.v:=by
 rw[ab4];have e:cut (c.map Pt.v) (some (-1)) none=((c.map Pt.v).drop (-1+((c.map Pt.v).length:Int)).toNat).take ((c.map Pt.v).length - (-1+((c.map Pt.v).length:Int)).toNat):=by simp[cut,aY]
 rw[e,aaP,show(-1+(c.length:Int)).toNat=c.length - 1 by lia];exact abb (by simp)
def Ic(c:Kk):fQ (aT c) (some (-1)) none=some (.tup ((c.drop (c.length - 1)).map Pt.v)):=by
 show fQ (.tup (c.map Pt.v)) _ _=_;rw[NZ,UI]
def Ie(c:Kk):Pv.cop .eq (.tup ((c.drop (c.length - 1)).map Pt.v)) (.tup [.tup [.str [100,114,111,112],.str [113]]])=some (decide (c.drop (c.length - 1)=[.drop [113]])):=by
 show dQ deep (.tup _) (.tup ([Pt.drop [113]].map Pt.v))=_;rw[xF,pK (G7 17)]
def turn(hn:ns.length<=63)(hw:5000<w){k:Nat}(hk:k<9)(I:Inv t k S L){Z:T2}(h3:lv Z ((hist S L).map gk)){x5 x6 x7 x8 x9 jN jD iU gw fD eS ez ek:Option V}{Q:Fl->Fr->Prop}(fin:∀fr,St ns t (k+1) fr->Q .nx fr):
  Wp (turnF (run prog w (n+11)) w (.one 5) qA (.int (0+(k:Nat))) (lF ns t (lO t S L) Z (.int (S.length:Nat)) x5 x6 x7 x8 x9 jN jD iU gw fD eS ez ek)) Q:=by
 have G:=I.cur;have RS:=G.rw I.t5 (by lia);have z:=G.tx;have tl:=G.tl;have N:=I.l;obtain⟨r,a⟩:=Df S L;have Mu:fy (.lst ((hist S L).map gk)) (.int (S.length:Nat))=some (gk (r,br S)):=by
  show bz _ ((S.length:Nat):Int)=_;rw[mP,aaU,a];rfl
 have Mv:fy (gk (r,br S)) (.int 1)=some (.lst ((br S).map aZ)):=rfl;have mk:=λfr=>call2 (fr:=fr) (yX (F:=prog) (i:=22) (w:=w) (n:=n+10) rfl RS);rw[HZ,Ia,z]at mk;have dr:=λ(k:Int) (m:Nat) (hm:0<m) fr=>iR (fr:=fr) (gX (F:=prog) (c:=16) (dr:=17) (w:=w) (n:=n+9) rfl rfl hn k (many:=(m:Int)) (by lia));generalize eh:(20:Int)+80*((0:Int)+(k:Nat))=he
 have x:=dr he 7 (by decide);obtain⟨d,A,B⟩:=drawn (ns:=ns) he 7 (by decide);rw[A]at x;have HU:=dr (he+1) 4 (by decide);obtain⟨y,Rp,f⟩:=drawn (ns:=ns) (he+1) 4 (by decide);rw[Rp]at HU;have HV:=dr (he+70) 6 (by decide);obtain⟨p,C,-⟩:=drawn (ns:=ns) (he+70) 6 (by decide);rw[C]at HV;obtain⟨way,Ku,UJ⟩:∃way:Int,fy (.lst [.int 0,.int 0,.int 0,.int 0,.int 1,.int 2,.int 3]) (.int (d:Int))=some (.int way)/\(way=0\/way=1\/way=2\/way=3):=by
  match d,B with
  |0,_=>exact⟨_,rfl,.inl rfl⟩
  |1,_=>exact⟨_,rfl,.inl rfl⟩
  |2,_=>exact⟨_,rfl,.inl rfl⟩
  |3,_=>exact⟨_,rfl,.inl rfl⟩
  |4,_=>exact⟨_,rfl,.inr (.inl rfl)⟩
  |5,_=>exact⟨_,rfl,.inr (.inr (.inl rfl))⟩
  |6,_=>exact⟨_,rfl,.inr (.inr (.inr rfl))⟩
 obtain⟨o,ho⟩:∃o:Θ,fy (.lst [.str [97,110,110],.str [98,111],.str [97,110,110],.str [99]]) (.int (y:Int))=some (.str o):=by
  match y,f with
  |0,_=>exact⟨_,rfl⟩
  |1,_=>exact⟨_,rfl⟩
  |2,_=>exact⟨_,rfl⟩
  |3,_=>exact⟨_,rfl⟩
 obtain⟨c,g,f1,f2,f3,f4,f5⟩:=EE (F:=prog) (c0:=16) (sH:=17) (sI:=19) (i:=21) (w:=w) (n:=n+4) hn rfl rfl rfl rfl (he+2) (bP t S) (by lia);have g:=λfr=>iR (fr:=fr) g;have H:c.drop (c.length - 1)≠[.drop [113]]:=λe=>G.nq (wD (by simp) c _ f1 (abG (show Pt.drop [113]∈c.drop (c.length - 1)by rw[e];simp)));have j:(c++[Pt.drop [113]]).drop ((c++[Pt.drop [113]]).length - 1)=[.drop [113]]:=by simp
 have q:aS (c++[Pt.drop [113]]) (bP t S)=false:=by
  cases e:aS (c++[Pt.drop [113]]) (bP t S)with
  |false=>rfl
  |true=>
   have J:=iH e;have P:=iH f1;rw[iG]at J;have W:aE [Pt.drop [113]]=1:=by simp[aE,tot,gu,Pt.n]
   lia
 have K:tot (c++[Pt.drop [113]])=tot c+1:=by rw[eU];simp[tot,Pt.n]
 have M:Pv.bO .add (aT c) (.tup [.tup [.str [100,114,111,112],.str [113]]])=some (aT (c++[.drop [113]])):=by
  show Pv.bO .add (.tup (c.map Pt.v)) (.tup [_])=_;rw[qh (by simp;lia)];show _=some (V.tup ((c++[Pt.drop [113]]).map Pt.v));rw[aaG (l₂:=[Pt.drop [113]])];rfl
 refine di (af:=lF ns t (lO t S L) Z (.int (S.length:Nat)) (sv (.int (0+(k:Nat)))) x6 x7 x8 x9 jN jD iU gw fD eS ez ek) (bind1 rfl vm) ?_;refine ai (aK (v:=.int he) (ao:=lF ns t (lO t S L) Z (.int (S.length:Nat)) (sv (.int (0+(k:Nat)))) (sv (.int he)) x7 x8 x9 jN jD iU gw fD eS ez ek) (aU (aG rfl) (aU (aG rfl) (au rfl) (qm (V2 _))) (by rw[<-eh];exact cj)) rfl (bZ rfl vm) ?_);refine ai (aK (ao:=lF ns t (lO t S L) Z (.int (S.length:Nat)) (sv (.int (0+(k:Nat)))) (sv (.int he)) (sv (.lst ((br S).map aZ))) x8 x9 jN jD iU gw fD eS ez ek) (cG (cG (nM rfl rfl h3) (au rfl) Mu) (aG rfl) Mv) rfl (bZ rfl vm) ?_);refine ai (aK (ao:=lF ns t (lO t S L) Z (.int (S.length:Nat)) (sv (.int (0+(k:Nat)))) (sv (.int he)) (sv (.lst ((br S).map aZ))) (sv (.str (bP t S))) x9 jN jD iU gw fD eS ez ek) (cG (cR (aR rfl (au rfl) (aR rfl (au rfl) aO)) (mk _)) (aG rfl) rfl) rfl (bZ rfl vm) ?_);refine ai (aK (ao:=lF ns t (lO t S L) Z (.int (S.length:Nat)) (sv (.int (0+(k:Nat)))) (sv (.int he)) (sv (.lst ((br S).map aZ))) (sv (.str (bP t S))) (sv (.int way)) jN jD iU gw fD eS ez ek) (cG (fB (aq (aG rfl) (aq (aG rfl) (aq (aG rfl) (aq (aG rfl) (aq (aG rfl) (aq (aG rfl) (aq (aG rfl) ay))))))) (cW (bE (by simp)))) (cR (aR rfl (au rfl) (aR rfl (au rfl) (aR rfl (aG rfl) aO))) (x _)) Ku) rfl (bZ rfl vm) ?_);refine ai (aK (ao:=lF ns t (lO t S L) Z (.int (S.length:Nat)) (sv (.int (0+(k:Nat)))) (sv (.int he)) (sv (.lst ((br S).map aZ))) (sv (.str (bP t S))) (sv (.int way)) (sv (.str o)) jD iU gw fD eS ez ek) (cG (fB (aq (aG rfl) (aq (aG rfl) (aq (aG rfl) (aq (aG rfl) ay)))) (cW (bE (by simp)))) (cR (aR rfl (au rfl) (aR rfl (aU (au rfl) (aG rfl) cj) (aR rfl (aG rfl) aO))) (HU _)) ho) rfl (bZ rfl vm) ?_);refine ai (aK (ao:=lF ns t (lO t S L) Z (.int (S.length:Nat)) (sv (.int (0+(k:Nat)))) (sv (.int he)) (sv (.lst ((br S).map aZ))) (sv (.str (bP t S))) (sv (.int way)) (sv (.str o)) (sv (aT c)) iU gw fD eS ez ek) (cR (aR rfl (au rfl) (aR rfl (aU (au rfl) (aG rfl) cj) (aR rfl (au rfl) aO))) (g _)) rfl (bZ rfl vm) ?_);refine ai (aM (b:=decide ((p:Int)=0)) (aF rfl (bT (cR (aR rfl (au rfl) (aR rfl (aU (au rfl) (aG rfl) cj) (aR rfl (aG rfl) aO))) (HV _)) (aG rfl) jG) rfl) (λ_=>?_) λ_=>aD ?_)
 .refine ai (aK (ao:=lF ns t (lO t S L) Z (.int (S.length:Nat)) (sv (.int (0+(k:Nat)))) (sv (.int he)) (sv (.lst ((br S).map aZ))) (sv (.str (bP t S))) (sv (.int way)) (sv (.str o)) (sv (aT (c++[.drop [113]]))) iU gw fD eS ez ek) (aU (au rfl) (cF (aq (cF (aq (aG rfl) (aq (aG rfl) ay)) eH) ay) om) M) rfl rfl (aD ?_));exact mid (n:=n) hw hk I h3 UJ (by lia) (by simp;lia) (Ic _) (Ie _) (λ_=>q) (λh=>by rw[j]at h;simp at h) fin
 .exact mid (n:=n) hw hk I h3 UJ (by lia) (by lia) (Ic _) (Ie _) (λh=>absurd (aa7 h) H) (λ_=>⟨f1,f2,f3,f4,f5⟩) fin
def UK(hn:ns.length<=63)(Z:5000<w):run prog w (n+12) 24 [.val (j0 ns)]=some (.bl true,[]):=by
 have a:(txt ns 0 5).length<=5:=Ou ns 0 (most:=5) (by decide);have b:=V3 ns;have d:=λfr=>iR (fr:=fr) (JM (F:=prog) (c:=16) (dr:=17) (t:=18) (w:=w) (n:=n+8) rfl rfl hn rfl 0 5 (by decide) (by decide));have f:=Oq (F:=prog) (fd:=35) (pC:=34) (m:=n+9) (w:=w) rfl rfl;generalize txt ns 0 5=t at a b d
 obtain⟨N,h9,rn⟩:∃N:Nat,N<=9/\cZ .max [.int 1,.int (if (ns.length:Int)<9 then (ns.length:Int)else 9)]=some (.int (N:Nat)):=by
  rw[G0];refine⟨max 1 (min 9 ns.length),by lia,?_⟩
  congr 2
  split<;>split<;>lia
 have g:cZ .len [j0 ns]=some (.int (ns.length:Nat)):=by simp[j0]
 refine bK (fn:=Mq) rfl rfl ?_;refine ai (aK (cR (aR rfl (au rfl) (aR rfl (aG rfl) (aR rfl (aG rfl) aO))) (d _)) rfl rfl ?_);refine ai (VO (l:=lO t [] []) (aq (au rfl) ay) f rfl rfl rfl ?_);refine ai (gQ (l:=(hist [] []).map gk) (fB (aq (cF (aq (aG rfl) (aq (fB ay lz) ay)) eH) ay) qf) rfl rfl ?_);refine ai (aK (ao:=lF ns t (lO t [] []) (some (.own ((hist [] []).map gk))) (.int ((([]:List Lp).length:Nat):Int)) none none none none none none none none none none none none none) (aG rfl) rfl rfl ?_);refine ai (kC (vs:=range 0 N) (af:=lF ns t (lO t [] []) (some (.own ((hist [] []).map gk))) (.int ((([]:List Lp).length:Nat):Int)) none none none none none none none none none none none none none) (vX (aq (eF (aq (aG rfl) (aq (eF (aq (aG rfl) (aq (eF (aq (au rfl) ay) g) ay)) AH) ay)) rn) ay) (JN (by lia) rfl)) ?_);refine CK (lo:=0) (N:=N) (St ns t) (λk fr p q=>?_) (λfr q=>?_) ⟨[],[],_,λ_=>none,⟨λs h=>by simp at h,abu _,a,b⟩,.own,rfl⟩
 .obtain⟨S,L,j,z,I,e,rfl⟩:=q;exact turn hn Z (by lia) I e λfr q=>by rw[dZ];exact q
 .obtain⟨S,L,j,z,I,e,rfl⟩:=q;exact ai (bJ (aG rfl) ⟨rfl,rfl⟩)
end
def good:∀ns:Q1,ns.length<=63->∃h',Ev.run prog 100000 60 24 [.ref 0] [.bY (ns.map Ev.D.int)]=.ok (.bl true) h':=λns h=>NV (UK (w:=100000) (n:=48) h (by decide))
end Lg
theorem Lw.good:∀ns:Q1,ns.length<=63->∃h',Ev.run Lw.prog 100000 60 24 [.ref 0] [.bY (ns.map Ev.D.int)]=.ok (.bl true) h':=Lg.good
open Lean in
local macro_rules|`(command|#print $s:str)=>do
 let f:Array Ident:=((s.getString.splitOn " ").map λx=>mkIdent (.mkSimple ("tw"++toString (x.foldl (λn c=>let k:=c.toNat;62*n+if k<58 then k-48 else if k<91 then k-55 else k-61) 0)))).toArray
 `(command|structure $(mkIdent `PySem.W.Fast):ident:Prop where($f:ident* :True))
#print "CgmyklbkawH FlH8BR7ql0z GmBCEMqhYZ4 JIIvTR1YhuQ Gj3BCoERCbR 7X76WUCxCA3 CgUT6COeXSA B0IMDdG8IER 7xV2Vr3SOuq 2qe4e8AuUz5 7SesQ2A17Ml 4xxQWRwrBso KqgSHO4dbpt A0nfs1xbqJf KgdOXEDBolA RKtlD5ITOk 85Isz3N32N3 ABXryOV5aag MuD29Mqfll E7gD38UZP2j I6dhuREwbna 7QqJQtr2AZL GKQMKXhsqy6 1iUPmx5zllw 7jnKk7cWfcN 86DqUEiXdYk HOTgjMu97sa 5ZKomaYuCJW 3M8YVr1UAmR 3Gn42ITvpPK Irfk9KoYCbv 2ew2ZDGaB7c BEQ39RKdirx EnMZ7Qiejf K5e2drocrZk LyDNeTUFMGU AZB7Hogh0WM GCzL5HCi6Hu rm2k3GXRex 4G3Xegs0laS CPz3LnWJMVr EsfDTZY4ECf HsGdf1nps0B 6OkkBPy6rn0 L7zL6jgbGOI 3EWiMs2wIMA ICExLxqiqwB 65FzT2uZg GDbBNTzPS2R AKOyAO12T8W IBCYh0QbHFb 7abRBpSkMXo KcPs5VsuamE czfqPw8a4Q 1AaqmoAylD7 LcaCiYywj02 K8JnUD5RKTe 99tIBqC59lV Ei8ZbWdm4Q4 8tZvEbOHUtY Q4hzE6PcQJ 6qt5rAlYVTE ENRjfBiDl6D 1dJj4Np6ae3 IIK3ZDXCXy9 CBGSIxjBc01 Cat7UCnJYiB RbunlVeFLX JuDbm6kJj1x 134U7DiEwgJ FQAeupG7spa E9j6RfgddYm 6j9LO4GG27f BLQGgQKzWko 35i8w2U6ztu FTkxotHRo4k 3ka93hyoCQm 2Kqwx1zywL5 AUydwLsNYVj 2fr8rM4Y1Au 7Bze61LPzqH BoIlZnbrv2c 4Ovbp7cyzCV C2Px1kG0gFd DRNgONIlx4Y 2M5JL8qBhz9 4ZrDbn5Bjhn 4cYIw5uIPpe 5EzVIuK0t1k 9ONZMAgEIVy 6fwfcdlmpYV Hge24WNsSYU 9IDlmf5aB3s LA7Umq0w2S4 KNcWyVbv9jq GaSOR0BGQZz DfPZLFl5Jee CFQUb3PonQI FpdstLVJPrM ES51edItw0j 9x7FFOeimw3 DTqXmoXSrxF 9IKbsp82FkD 6ntCkApoeb0 GY5kXjEAcyC KMNk4JrwKte LeBmXSnDwEn 415aH9i3kWH 3t2h2A7rndV JYCqFytzcQ2 gjThc7ROSO 6W6BmVJKyg0 Lv8XTf7qSsg BrbDpVbF005 B6134z91ujZ KsuzkK28nYE ESAGnofALJK F7TVxMB0tJZ KU4NeCyxJy8 8Dyd2UTaM5h Kri3epxENT8 wTfZs9zwUx DoZs2lOSYxS I1VhgeBe73q F2WXPQSfqA5 1LICbnC7vpN 4zZdwPUbVki 2qpIkjEAW0c FyArJFY0nji 1ts7ISGtgai 3S7BstF4gJo LkBulULn73A 34DjMsLmdsC IMcBPuuEoJ3 KUlMA4AGoGL KDNPM45Mt6E 6QH4Eqhfofi 3vmM8rdvUWL JfXGLTH8PEw 5Zh1p8E0usC E2fkiHLOY9X 3IKnbB8DbQM 5ZLhrWqCor5 IEJTor0UuMl EndAevLoF4A 47FRQaaFzLe FD8WaDEd0NT FPivGTFlVgc 7MhiLFiAnwc L1wAAWo5gVw 2xtxDgwr0k4 D1VfLpWtEwV 612A0bGRG5M J8wRuJpPTez 4WcE9m2eyV7 612acKHPaMy BsjSYytkUcU CPd8roynfsT 6OTQP3wcHLw FlzxG05LXfe ESeKcEvdFhz LsPxpADHxLZ 1nS0Rf0xRwZ G9cwDLjH4S6 JSd7QlI1siB FBIHEwqzuVm J9eX4fYK3HV Bv4c8BeNBJK Evh5aO2kAB NYVD2cjwVi EicEAbm85WC Hm2y8llJ96s Bv7ewZREqiA XzFAvyrHEH 8gRVy6jrfpf LSfY2plnXQu GOYtmGZEHL0 EygqB0GmC8Q DtaJwHnBVrd FHINH3DpTju BDmYtKsKmf0 2OZZ7YS1h0h GIchinpDXHz I8dS2Bebno2 6eYreOQjgpi 8lSfEraBki7 9bjWPieGPF2 792ncDk1WAL LYBZQO6vjU9 IOy8q4WVzZT HshURCfA3BB CO7AW3gNEeR FgxTwk6o32z ECSjfn4ep1r J3N141u2zym KE0deWmhHoS HxzVFtQJAG5 9mmUCjvJjlx HSoFlteu6l0 KkS3Lhtt0MZ LX2bMCgLTLB 4Xs4WraFL5w 3lJZXXucYHH KvX6Y6xlCnN KOZQaLHKxNU 1av9ohoGjBq HEmT9WLTPcZ InWzO4GIkdV DwWs32cz64i ErrWSzLhfsQ Cupwq9VZA1d B51MNReO3x1 LqYkDIYIFMR 7wHXXeKj6ME KtbXTpI5zM1 3jNUTMvIqWx 8YWkGkf9CYz 6SNdy0y9Njy AxO4O3fVqty 3vn1g5bjodR 1HwcouDzVt4 Ln3IOGr2mFd IBr2pfSex3d AoUWegLmqCd pOEf30KY0S G3f7m6duJ9y A9OFOYOx7AN 2p30YGA9wl8 GPbLDiAk2wC 8wi4DLQQDZM AlGB8Wyl8TU Brw5iol4JRG CMzFsNYLhCj BwllWqIhOA7 1M0SsBRntUQ JM0sphBcUyD HpxtCmwDX34 GOgz91iJr8M 94hxI0PFVJp BlAZeaV9EnA 5tuc5H5A6Ml GUCDwGd0DVQ L2w6yTiTNb4 IXJFY187726 BUPuqpCseKW Ba2ElZcL55S AsHStFPXOGE 1xYn8T3JeVU DnPHqm0NZc0 CqgGySJF7WT 85d6lROFcuU G9On6AoHdJi Eb9cxacdhxH BlT2JEU3TMV DQ5tC7IjYi H2HekrUU9ZI JJQJbtbbk8Q LBWxlu1wtMd AkI03nhiDrd 779C3loApHi In8zDVfkP1i wWRaoQT7xW HZ3BDiX5P9w Ftr0nXpyRN1 5rWlQFTJo35 2mkgZSZVTLj FIpgtEEYHxq Fvalt4jbb9O Fxictp05n5z F6JrlPlrG1c Ia5llddU5QP 7hna8pZe37s JLE6nixVO0 7CpV5enYdkZ CTzosPSq6MD 9pAPJWIBMdN CGjDr8XjM3b AECyvouJuFy 8sSCbUphBjP BEGQxKUy1eD 199WeDphrTt 8ZAOIb9IgAP 5QNm8KUuUS0 J7QWW1CLizP 8zqBNjnrnWy 8ZB61zIb0cW Gzz8ENGPXwx DRKxzpkuY8L 81gJc31OIeF EyHoOIYVXvu 4A4yYxhVNv4 8xeSbzvP2zE AUNbupcu69T TtVZLYmXdp 4Ptx1doNWXI 90UKw2UXUIb CMJdBzKXrf7 1L3wWBpLC59 8SR3zmwQZBZ 1xuNXYdyot4 KBCAEONf7HU 4FN7A5VEwcX JUdm4blAmCL 2BhJFEU0uDj"
open PySem PySem.W PyProof.Rows
set_option maxRecDepth 100000 in
set_option maxHeartbeats 0 in
theorem PySem.Challenge.cw_pastways_k72_ledgers_holds : PySem.Challenge.rw_pastways_k72_ledgers.Holds := by
 w_on;o_law;k_head;(case hw=>w_witness2)
 k_fill
 refine Sm.Nt (F:=Lw.prog) (wh:=100000) (n:=60) (f:=24) (x:="_law_script") (l:=PySem.Challenge.rw_pastways_k72_ledgers) rfl rfl ⟨rfl,by decide,by decide⟩ (λw h Y=>PySem.W.kIn_of Y) Lw.good ?F
 case F=>
  intro w mg fa h KX G hmg
  refine' Lw.all_mk KX G hmg ⟨_,L2.bG _ _ _⟩ ⟨_,L2.bG _ _ _⟩ ⟨_,L2.bG _ _ _⟩ ⟨_,L2.bG _ _ _⟩ ⟨_,L2.bG _ _ _⟩ ⟨_,L2.bG _ _ _⟩ ⟨_,L2.bG _ _ _⟩ ⟨_,L2.bG _ _ _⟩ ⟨_,L2.bG _ _ _⟩ ⟨_,L2.bG _ _ _⟩ ⟨_,L2.bG _ _ _⟩ ⟨_,L2.bG _ _ _⟩ ⟨_,L2.bG _ _ _⟩ ⟨_,L2.bG _ _ _⟩ ⟨_,L2.bG _ _ _⟩ ⟨_,L2.bG _ _ _⟩ ⟨_,L2.bG _ _ _⟩ ⟨_,L2.bG _ _ _⟩ ⟨_,L2.bG _ _ _⟩ ⟨_,L2.bG _ _ _⟩ ⟨_,L2.bG _ _ _⟩ ⟨_,L2.bG _ _ _⟩ ⟨_,L2.bG _ _ _⟩ ⟨_,L2.bG _ _ _⟩ ⟨_,L2.bG _ _ _⟩ ⟨_,_,_,_,_,_,_⟩ ⟨_,_,L2.bG _ _ _⟩ _ _ _ ⟨_,_,L2.bG _ _ _⟩ ⟨_,_,L2.bG _ _ _⟩ ⟨_,_,L2.bG _ _ _⟩ ⟨_,_,L2.bG _ _ _⟩ ⟨_,_,L2.bG _ _ _⟩ ⟨_,_,L2.bG _ _ _⟩ ⟨_,_,L2.bG _ _ _⟩ ⟨_,_,L2.bG _ _ _⟩ ⟨_,_,L2.bG _ _ _⟩ ⟨_,L2.bG _ _ _⟩ _ (Sm.xy _ _ _ _ _ _) (Sm.xy _ _ _ _ _ _) (Sm.xy _ _ _ _ _ _) _ _ _ _ _ _ _ _ _ _ _;all_goals try first|k_is|rfl|decide | (with_unfolding_all rfl)
  all_goals kernel_rfl

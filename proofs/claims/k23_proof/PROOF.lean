import PyProof.Rows.All
import Wide.All
import OpenK.AllK
import Wide.FinOn
import Lean
import PyProof.EqAt
import PyProof.EqKinds
import PyProof.TupleCall
import PyProof.DictUpdate
import PyProof.NeKinds
import PyProof.StrLawsIn
import KE.KRevSl
import PyProof.ZipIter
import PyProof.ListRange
import PyProof.Rows.SortStr
import KE.KRevIter
import KE.KDictSum
import PyProof.EnumMake
import PyProof.EnumFor
import PyProof.Draws
import KE.KIntText
import PyProof.CallStr
import PyProof.SetKind
import PySem.Challenge.RW_pastways_k23_whole_clashing
local macro_rules|`(tactic|decide)=>`(tactic|decide +kernel)
local macro_rules|`(command|def $i:declId $s:optDeclSig $v:declVal)=>`(command|noncomputable def $i:declId $s:optDeclSig $v:declVal)|`(command|abbrev $i:declId $s:optDeclSig $v:declVal)=>`(command|@[reducible]noncomputable def $i:declId $s:optDeclSig $v:declVal)
theorem gL{l:List α}{i:Nat}(h:l[i]?=some a):∃h:i<l.length,l[i]=a:=List.getElem?_eq_some_iff.mp h
theorem gN{x:Option α}(h:x.isSome=true):∃a,x=some a:=Option.isSome_iff_exists.mp h
abbrev Δ:=List (List Nat)
abbrev Θ:=List (Int×List Nat)
abbrev Ξ:=List Nat
abbrev Φ:=PySem.Value->PySem.Shared->Prop
abbrev Ψ:=PySem.W.Frag
abbrev Ω:=List (PySem.Addr×PySem.Obj)
abbrev X9:=Nat->Prop
abbrev Y1:=List PySem.Str
abbrev Y2:=List PySem.Addr
abbrev W1:=List PySem.Value
abbrev Kx:=PySem.Str->Option PySem.Value
abbrev Kk:=List Int
abbrev Kj:=List PySem.Expr
local macro_rules|`(tactic|exists $e:term)=>`(tactic|(injection $e:term<;>subst_vars))|`(tactic|exists $e:term,$f:term)=>`(tactic|with_reducible show $e _ _ _ _ _ _ $f _)
theorem kA{f:α->β}{x:Option α}(h:x.map f=some b):∃a,x=some a/\f a=b:=Option.map_eq_some_iff.mp h
theorem kS{a:α}{l m:List α}(h:a∈l++m):a∈l\/a∈m:=List.mem_append.mp h
theorem qE{a b:α}{l:List α}(h:a∈b::l):a=b\/a∈l:=List.mem_cons.mp h
abbrev q5(e:PySem.Expr)(s:List PySem.Expr)(v:PySem.Env):Prop:=PySem.starEach (e :: s) v=(false,PySem.eval e v) :: PySem.starEach s v
abbrev q7(p:PySem.Pos)(s:List PySem.Expr)(v:PySem.Env):Prop:=(PySem.backTo p (PySem.starEach s v)).any (·.1)=false
abbrev wE(e:PySem.Expr)(f:PySem.Str)(v:PySem.Env):Prop:=PySem.attributeBase e f v (PySem.eval e v)=PySem.eval e v
set_option bootstrap.genMatcherCode false
set_option compiler.extract_closed false
set_option maxHeartbeats 4000000
noncomputable section
set_option Elab.async false
set_option linter.all false
set_option maxRecDepth 100000
def gH:=@PySem.wpAny_bind
def gV:=@if_pos
def oW:=@List.getElem?_append_left
def yK:=@Bool.and_eq_true
def AN:=@List.getElem?_set_ne
def Jb:=@List.getElem?_set_self
def Uv:=@Nat.lt_of_lt_of_le
def Uw:=@Option.map_eq_some_iff
def Ws:=@PySem.wpAny_pure
def WL:=@List.map_cons
def Yl:=@if_neg
def Zw:=@Nat.le_refl
def Zx:=@List.length_append
def Zy:=@List.getElem?_eq_getElem
def Zz:=@Option.bind_eq_some_iff
def ZA:=@List.mem_of_getElem?
def ZC:=@List.size_toArray
def ZD:=@PySem.Heap.get?_push_of_some
def ZE:=@List.replicate_succ
def ZF:=@List.length_map
def ZG:=@decide_eq_false
def ZH:=@List.length_cons
def ZI:=@PySem.Heap.lt_size
def ZJ:=@congrArg
def ZK:=@List.append_nil
def ZL:=@Nat.le_trans
def ZM:=@PySem.Heap.get?_push_size
def ZN:=@List.mem_cons_of_mem
def ZO:=@decide_eq_true
def ZP:=@Option.some.inj
def ZQ:=@List.map_append
def ZR:=@Nat.ne_of_lt
def ZS:=@List.length_singleton
def ZT:=@PySem.wpAny_mono
def ZU:=@of_decide_eq_true
def ZV:=@List.append_assoc
def ZW:=@PySem.W.mg_none_of
def ZX:=@List.mem_cons_self
def ZY:=@List.getElem?_append_right
def ZZ:=@List.filterMap_cons
def Z0:=@List.reverse_cons
def Z1:=@List.take_of_length_le
def Z2:=@if_true
def Z3:=@List.mem_append_right
def Z4:=@List.length_drop
def Z5:=@Bool.false_ne_true
def Z6:=@PySem.W.mg_of
def Z7:=@List.getElem?_eq_none
def Z8:=@Bool.not_eq_true'
def Z9:=@List.length_take
def aaa:=@List.getElem?_map
def aab:=@PySem.AutoSeq1.wpAny_loadPart'
def aac:=@decide_eq_true_eq
def aad:=@PySem.wpAny_ite_split
def aae:=@List.foldl_cons
def aaf:=@Bool.or_eq_true
def aag:=@Decidable.byContradiction
def aah:=@of_decide_eq_false
def aai:=@List.mem_singleton
def aaj:=@PySem.F.plainAttrs_list
def aak:=@PySem.wpAny_newObj_type
def aal:=@List.find?_cons
def aam:=@List.drop_eq_nil_of_le
def aan:=@PySem.wpAny_holding
def aao:=@PySem.wpAny_Call_Name_kw
def aap:=@PySem.Heap.get?_update_self
def aaq:=@List.drop_eq_getElem_cons
def aar:=@PyProof.Rows.slot_tuple_getitem
def aas:=@Nat.zero_le
def aat:=@Nat.lt_irrefl
def aau:=@List.take_succ_cons
def aav:=@Ne.symm
def aaw:=@List.drop_drop
def aax:=@PySem.wpAny_call_entry
def aay:=@List.lookup_cons
def aaz:=@List.cons_append
def aaA:=@PySem.wpAny_field
def aaB:=@PySem.Heap.get?_update_other
def aaC:=@PySem.Calls.spliced_cons
def aaD:=@Bool.false_eq_true
def aaE:=@PyProof.Rows.callWith_type1
def aaF:=@PySem.wpAny_passesOwn
def aaG:=@List.range_succ
def aaH:=@List.nil_append
def aaI:=@List.length_nil
def aaJ:=@PySem.Calls.Name_function_global
def aaK:=@PySem.wpAny_truthy_bool
def aaL:=@PySem.wpAny_of_eq
def aaM:=@List.filter_cons
def aaN:=@PySem.mem_of_lookup
def aaO:=@Option.bind_eq_bind
def aaP:=@Array.length_toList
def aaQ:=@PySem.wpAny_callSpecial?_slot
def aaR:=@PyProof.Rows.len_str
def aaS:=@PySem.call_meets
def aaT:=@PySem.wpAny_specialOf
def aaU:=@Bool.eq_iff_iff
def aaV:=@Option.isSome_some
def aaW:=@PySem.sizeLine_eq
def aaX:=@Int.toNat_natCast
def aaY:=@PySem.Calls.spliced_nil
def aaZ:=@Nat.add_comm
def aa0:=@List.tail_drop
def aa1:=@List.take_append_drop
def aa2:=@List.dropLast_eq_take
def aa3:=@Nat.lt_succ_self
def aa4:=@PySem.wpAny_attempt
def aa5:=@Nat.add_assoc
def aa6:=@PySem.codeAny_mono
def aa7:=@List.map_nil
def aa8:=@PySem.W.callWith_K
def aa9:=@PySem.Obj.data_mapFields
def aba:=@Nat.lt_of_le_of_lt
def abb:=@PySem.F.args_tuple_mul_2
def abc:=@PySem.F.args_tuple_add_2
def abd:=@PySem.F.entry_tuple_mul
def abe:=@PySem.F.entry_tuple_add
def abf:=@PySem.Calls.loadGlobal_global
def abg:=@List.foldl_append
def abh:=@PySem.wpAny_Call_method_late
def abi:=@PySem.W.cellsFrom_some
def abj:=@PySem.F.slot_tuple_mul
def abk:=@PySem.F.slot_tuple_add
def abl:=@List.range_succ_eq_map
def abm:=@PySem.Calls.callWith_builtin
def abn:=@if_false
def abo:=@PySem.wpAny_execs_cons
def abp:=@List.drop_length
def abq:=@PySem.W.methodCall_KW
def abr:=@PySem.F.slot_dict_get
def abt:=@List.set_getElem_self
def abu:=@List.length_replicate
def abv:=@PySem.wpAny_call
def abw:=@List.map_map
def abx:=@Int.zero_add
def aby:=@PySem.wpAny_execs_nil
def abz:=@List.of_mem_zip
def abA:=@List.nodup_cons
def abB:=@List.replicate_succ'
def abC:=@List.mem_of_mem_drop
def abD:=@PySem.Calls.evalArgs_plain
def abE:=@List.take_append_of_le_length
def abF:=@PySem.W.plainGet_of
def abG:=@List.getElem?_range
def abH:=@PySem.Heap.SameBut.update
def abI:=@List.drop_zero
def abJ:=@PySem.tupleKind_room_in1
def abK:=@Nat.add_sub_cancel
def abL:=@List.filter_append
def abM:=@PySem.Paired.length
def abN:=@List.mem_cons
def abO:=@List.any_cons
def abP:=@PySem.wpAny_newFunctionEnv_cells
def abQ:=@List.isPrefixOf_iff_prefix
def abR:=@PySem.wpAny_Return_some
def abS:=@Option.some.injEq
def abT:=@List.flatten_cons
def abU:=@List.ext_getElem?
def abV:=@PySem.wpAny_rule
def abW:=@PySem.typeIs_int
def abX:=@PySem.wpAny_binaryOp_repeat_ref
def abY:=@List.getElem?_eq_none_iff
def abZ:=@Array.getElem?_eq_getElem
def ab0:=@PySem.wpAny_typeOf
def ab1:=@PySem.W.looks_findIn
def ab2:=@Nat.le_of_lt
def ab3:=@PySem.wpAny_isInstance
def ab4:=@PySem.noFill_tuple_add
def ab5:=@Nat.min_eq_right
def ab6:=@PySem.AutoSeq1.idx_int
def ab7:=@PySem.wpAny_comprehension_free
def ab8:=@PySem.F.type_list_append
def ab9:=@PySem.F.slot_list_append
def acd:=@decide_eq_false_iff_not
def ace:=@PySem.F.args_dict_get_3
def acf:=@List.getElem?_replicate
def acg:=@PySem.wpAny_updateSeq
def ach:=@Option.map_some
def aci:=@Nat.min_eq_left
def acj:=@List.head?_drop
def ack:=@PySem.F.entry_dict_get
def acm:=@List.drop_of_length_le
def acn:=@PySem.wpAny_setField
def aco:=@PySem.Heap.size_push
def acp:=@PySem.F.slot_int_rmul
def acq:=@List.length_filter_le
def acr:=@Array.getElem?_toList
def acs:=@PySem.wpAny_Name
def acu:=@beq_iff_eq
def acv:=@List.mem_append_left
def acw:=@List.getElem_toArray
def acy:=@List.getElem?_of_mem
def acz:=@List.getElem?_modify
def acA:=@List.map_drop
def acB:=@List.all_cons
def acC:=@Bool.true_and
def acD:=@PySem.W.callWith_K0
def acE:=@Nat.sub_lt_sub_left
def acF:=@List.map_congr_left
def acG:=@List.flatMap_append
def acH:=@Nat.zero_add
def acI:=@Nat.ne_of_gt
def acJ:=@decide_eq_true_iff
def acK:=@PySem.W.codeRec_of
def acL:=@List.find?_eq_none
def acM:=@Int.natCast_nonneg
def acN:=@Int.emod_lt_of_pos
def acO:=@Nat.le_succ
theorem zN{a b:Bool}{p:Prop}(h:a=b)(q:a≠b:=by decide):p:=absurd h q
namespace L2
open PySem PySem.Spec PyProof.Rows
abbrev Key:=Sum Int Str
def mJ:Key->Value->Bool
 |.inl k,v=>Value.isInt k v
 |.inr x,v=>Value.isStrOf x v
def Vp(w:World):Key->Int
 |.inl k=>hashInt k
 |.inr x=>hashStr w x
def dG:∀{k:Key}{v:Value},mJ k v=true->(∃i t,k=Sum.inl i/\v=Value.int i t)\/(∃x t,k=Sum.inr x/\v=Value.str x t)
 |.inl i,v,h=>by
  obtain⟨t,e⟩:=Value.isInt_shape h;exact .inl ⟨i,t,rfl,e⟩
 |.inr x,v,h=>by
  obtain⟨t,e⟩:=Value.isStrOf_shape h;exact .inr ⟨x,t,rfl,e⟩
def uG(i:Int)(t:Tok):mJ (.inl i) (.int i t)=true:=by simp[mJ,Value.isInt]
def uH(x:Str)(t:Tok):mJ (.inr x) (.str x t)=true:=by simp[mJ,Value.isStrOf]
def LR(a b:Int):decide ((Sum.inl a:Key)=Sum.inl b)=(a==b):=by
 by_cases e:a=b
 .subst e;simp
 .have h:¬ (Sum.inl a:Key)=Sum.inl b:=λq=>e (Sum.inl.inj q);rw[ZG h];exact(beq_eq_false_iff_ne.mpr e).symm
def LS(a b:Str):decide ((Sum.inr a:Key)=Sum.inr b)=decide (a=b):=by
 by_cases e:a=b
 .simp
 .have h:¬ (Sum.inr a:Key)=Sum.inr b:=λq=>e (Sum.inr.inj q);rw[ZG h,ZG e]
def LU(a:Int)(b:Str):decide ((Sum.inl a:Key)=Sum.inr b)=false:=ZG (λq=>nomatch q)
def LV(a:Str)(b:Int):decide ((Sum.inr a:Key)=Sum.inl b)=false:=ZG (λq=>nomatch q)
def bq(prog:Program)(w:World):PySem.KeyKind prog w Key where
 is:=mJ
 hash:=Vp w
 inj:=λv a b g f=>by
  rcases dG g with ⟨i,t,rfl,rfl⟩|⟨x,t,rfl,rfl⟩
  .rcases dG f with ⟨j,u,rfl,e⟩|⟨y,u,rfl,e⟩
   .injection e with c _;rw[c]
   .exact nomatch e
  .rcases dG f with ⟨j,u,rfl,e⟩|⟨y,u,rfl,e⟩
   .exact nomatch e
   .injection e with c _;rw[c]
 byValue:=λk v h=>by
  rcases dG h with ⟨i,t,rfl,rfl⟩|⟨x,t,rfl,rfl⟩<;>rfl
 pyHash:=λd h=>by
  rcases dG d with ⟨i,t,rfl,rfl⟩|⟨x,t,rfl,rfl⟩
  .exact wpAny_pyHash_int h
  .exact wpAny_pyHash_str h
 eqBool:=λl d h=>by
  rcases dG l with ⟨i,t,rfl,rfl⟩|⟨x,t,rfl,rfl⟩
  .rcases dG d with ⟨j,u,rfl,rfl⟩|⟨y,u,rfl,rfl⟩
   .rw[LR]at h;exact wpAny_eqBool_int h
   .rw[LU]at h;exact SeqAt.EqAt.int_str i t y u _ _ _ _ h
  .rcases dG d with ⟨j,u,rfl,rfl⟩|⟨y,u,rfl,rfl⟩
   .rw[LV]at h;exact SeqAt.EqAt.str_int x t j u _ _ _ _ h
   .rw[LS]at h;exact wpAny_eqBool_str h
 «strs»:=λk x t v h=>by
  rcases dG h with ⟨i,u,rfl,e⟩|⟨y,u,rfl,e⟩
  .exact nomatch e
  .injection e with c _
   subst c;cases v<;>rfl
def yW(prog:Program)(w:World)(i:Int)(t:Tok):(bq prog w).is (.inl i) (.int i t)=true:=uG i t
def yX(prog:Program)(w:World)(x:Str)(t:Tok):(bq prog w).is (.inr x) (.str x t)=true:=uH x t
inductive V where
 |aU|bl (b:Bool)|int (i:Int)|str (x:Str)|Cr (b:Array UInt8)|LW (b:UInt64)|ref (a:Addr)|ty (n:String)
 deriving DecidableEq
abbrev _root_.Ty:=List V
def RelV:V->Value->Prop
 |.aU,u=>u=Value.none
 |.bl b,u=>u=Value.bool b
 |.int i,u=>∃t,u=Value.int i t
 |.str x,u=>∃t,u=Value.str x t
 |.Cr b,u=>∃t,u=Value.bytes b t
 |.LW b,u=>∃t,u=Value.float b t
 |.ref a,u=>u=Value.ref a
 |.ty n,u=>u=Value.type n
abbrev Vals:List V->List Value->Prop:=Paired RelV
theorem Vals.length(r:Vals xs us):xs.length=us.length:=abM r
theorem Vals.get:∀{xs:Ty}{us:W1}{i:Nat}{x:V},Vals xs us->xs[i]?=some x->∃u,us[i]?=some u/\RelV x u
 |_,_,_,_,.nil,e=>by simp at e
 |_,_,0,_,.cons r _,e=>by simp at e;subst e;exact⟨_,rfl,r⟩
 |_,_,i+1,x,.cons _ t,e=>by
  obtain⟨u,a,b⟩:=Vals.get t (by simpa using e);exact⟨u,by simpa using a,b⟩
theorem Vals.append:∀{xs z:Ty}{us I:W1},Vals xs us->Vals z I->Vals (xs++z) (us++I)
 |_,_,_,_,.nil,s=>s
 |_,_,_,_,.cons r t,s=>.cons r (Vals.append t s)
theorem Vals.take:∀{xs:Ty}{us:W1}(n:Nat),Vals xs us->Vals (xs.take n) (us.take n)
 |_,_,0,_=>.nil
 |_,_,_+1,.nil=>.nil
 |_,_,n+1,.cons r t=>.cons r (Vals.take n t)
theorem Vals.drop:∀{xs:Ty}{us:W1}(n:Nat),Vals xs us->Vals (xs.drop n) (us.drop n)
 |_,_,0,r=>r
 |_,_,_+1,.nil=>.nil
 |_,_,n+1,.cons _ t=>Vals.drop n t
def jY:Option V->Option Value->Prop
 |some v,some u=>RelV v u
 |none,none=>True
 |_,_=>False
def KV{κ:Type}:List (κ×V)->List (κ×Value)->Prop:=Paired λ(p:κ×V) (q:κ×Value)=>p.1=q.1/\RelV p.2 q.2
def kV:Key->V
 |.inl i=>.int i
 |.inr x=>.str x
inductive HO where
 |lst (xs:Ty)
 |tup (xs:Ty)
 |dK (kvs:List (Key×V))|dT (kvs:List (List Key×V))
 |set (S:Int->Bool) (n:Nat)
 |ins (C dx:Addr) (fs:List (Str×V))
 |own (x:Addr)
 |xd (fs:List (Str×V))
 |met (f x:Addr)
 |jM (lo hi:Int)
 |bQ (o:Obj) (u:HO)
 |uI (ps:Array Value)
 |ext (φ:Heap->Prop)
abbrev Hp:=Addr->Option HO
def upd(H:Hp)(a:Addr)(o:HO):Hp:=λb=>if b=a then some o else H b
def e8:upd H a o a=some o:=by unfold upd;rw[gV rfl]
def aV(h:b≠a):upd H a o b=H b:=by unfold upd;rw[Yl h]
def iQ{H:Hp}(h:H a=some o)(h':H b=some u)(d:o≠u):a≠b:=by
 intro e;subst e;rw[h]at h';exact d (ZP h')
def bG{H:Hp}(h:H a=some o)(h':H b=none):a≠b:=by
 intro e;subst e;rw[h]at h';exists h'
section
variable(P:Program)(w:World)
def dH(H:Hp)(h:Heap)(a:Addr):HO->Prop
 |.lst xs=>xs.length<=sizeLine/\∃(its:W1) (n:Nat),Vals xs its/\h.get? a=some { cls:=.type "list",data:=.seq its.toArray n }
 |.tup xs=>xs.length<=sizeLine/\∃its:W1,Vals xs its/\IsTup h a its.toArray
 |.dK b=>b.length<=sizeLine/\(a==sysModules)=false/\∃vs,KV b vs/\h.DictOf (bq P w) a vs
 |.dT b=>b.length<=sizeLine/\(a==sysModules)=false/\∃xs:List (List Key×Addr×Value),
   Paired (λ(p:List Key×V) (q:List Key×Addr×Value)=>p.1=q.1/\H q.2.1=some (.tup (p.1.map kV))/\RelV p.2 q.2.2) b xs/\
   ∃o es ep,h.get? a=some o/\o.ExactDict/\o.data=.dict es ep/\es.toList=xs.map (entryOfKey (tupleKind (bq P w)))/\(xs.map (·.1)).Nodup
 |.set S n=>h.SetOf (intKind P w) a S n
 |.ins C c fs=>H c=some (.own a)/\fs.length<=1000/\c≠a/\h.get? a=some (W.instObj C c)/\
   ∃mA,h.Ns1 c mA/\(∀f,jY (fs.lookup f) (mA f))/\PySem.Within mA (fs.map (·.1))
 |.own _=>∃o,h.get? a=some o
 |.xd fs=>∃mA,h.Ns1 a mA/\∀f,jY (fs.lookup f) (mA f)
 |.jM d e=>∃t u v,h.get? a=some { cls:=.type "range",data:=.fields #[.int d t,.int e u,.int 1 v]}
 |.bQ o u=>h.get? a=some o/\dH H h a u
 |.uI ps=>h.get? a=some { cls:=.none,data:=.fields ps }
 |.met f x=>h.get? a=some (W.methodObj (.ref f) (.ref x))
 |.ext φ=>φ h/\(∃o,h.get? a=some o)/\∀h1 h2:Heap,φ h1->(∀o,h1.get? a=some o->h2.get? a=some o)->φ h2
def dS(H:Hp)(h:Heap):Prop:=∀a o,H a=some o->dH P w H h a o
end
section
variable{P:Program}{w:World}{H H':Hp}{h h':Heap}{a:Addr}{o:HO}
theorem dH.lt(x:dH P w H h a o):a<h.objs.size:=by
 cases o with
 |lst xs=>obtain⟨_,_,_,_,e⟩:=x;exact ZI e
 |tup xs=>obtain⟨_,_,_,p⟩:=x;exact p.lt
 |dK b=>obtain⟨_,_,_,_,o,_,_,e,_⟩:=x;exact ZI e
 |dT b=>obtain⟨_,_,_,_,o,_,_,e,_⟩:=x;exact ZI e
 |set S n=>obtain⟨o,_,_,_,e,_⟩:=x;exact ZI e
 |ins C c fs=>obtain⟨_,_,_,e,_⟩:=x;exact ZI e
 |own y=>obtain⟨_,e⟩:=x;exact ZI e
 |xd fs=>obtain⟨_,⟨_,_,_,e,_⟩,_⟩:=x;exact ZI e
 |jM d g=>obtain⟨_,_,_,e⟩:=x;exact ZI e
 |bQ i u=>obtain⟨e,_⟩:=x;exact ZI e
 |uI ps=>exact ZI (show h.get? a=some _ from x)
 |met f y=>exact ZI (show h.get? a=some _ from x)
 |ext φ=>obtain⟨_,⟨_,e⟩,_⟩:=x;exact ZI e
theorem Paired.ES{α β:Type}{F G:α->β->Prop}:∀{z:List α}{I:List β},Paired F z I->(∀a b,F a b->G a b)->Paired G z I
 |_,_,.nil,_=>.nil
 |_,_,.cons r t,f=>.cons (f _ _ r) (Paired.ES t f)
def dH.stay(x:dH P w H h a o)(k:∀b u,(b=a\/H b=some (.own a))->h.get? b=some u->h'.get? b=some u)(Z:∀b,H b=some (.own a)->H' b=some (.own a))(ht:∀b xs,H b=some (.tup xs)->H' b=some (.tup xs)):dH P w H' h' a o:=by
 induction o with
 |lst xs=>obtain⟨z,l,n,r,e⟩:=x;exact⟨z,l,n,r,k _ _ (.inl rfl) e⟩
 |tup xs=>obtain⟨z,l,r,g,e,c⟩:=x;exact⟨z,l,r,g,k _ _ (.inl rfl) e,c⟩
 |dK A=>obtain⟨z,y,I,r,g,i,j,e,c⟩:=x;exact⟨z,y,I,r,g,i,j,k _ _ (.inl rfl) e,c⟩
 |dT A=>
  obtain⟨z,y,xs,r,g,i,j,e,c⟩:=x;exact⟨z,y,xs,Paired.ES r λp q z=>⟨z.1,ht _ _ z.2.1,z.2.2⟩,g,i,j,k _ _ (.inl rfl) e,c⟩
 |set S n=>obtain⟨g,i,j,t,e,c⟩:=x;exact⟨g,i,j,t,k _ _ (.inl rfl) e,c⟩
 |ins C M fs=>
  obtain⟨d,z,J,e,B,⟨F,i,j,K,c⟩,r⟩:=x;exact⟨Z _ d,z,J,k _ _ (.inl rfl) e,B,⟨F,i,j,k _ _ (.inr d) K,c⟩,r⟩
 |own y=>obtain⟨g,e⟩:=x;exact⟨g,k _ _ (.inl rfl) e⟩
 |xd fs=>obtain⟨B,⟨F,i,j,e,c⟩,r⟩:=x;exact⟨B,⟨F,i,j,k _ _ (.inl rfl) e,c⟩,r⟩
 |jM N Q=>obtain⟨t,u,v,e⟩:=x;exact⟨t,u,v,k _ _ (.inl rfl) e⟩
 |bQ g u L=>obtain⟨e,q⟩:=x;exact⟨k _ _ (.inl rfl) e,L q⟩
 |uI ps=>
  have e:=x;exact k a _ (.inl rfl) e
 |met f y=>
  have e:=x;exact k a _ (.inl rfl) e
 |ext φ=>obtain⟨p,⟨o,e⟩,G⟩:=x;exact⟨G _ _ p λo q=>k _ _ (.inl rfl) q,⟨o,k _ _ (.inl rfl) e⟩,G⟩
theorem dS.lt(x:dS P w H h)(e:H a=some o):a<h.objs.size:=(x a o e).lt
def dS.fresh(x:dS P w H h)(e:h.objs.size<=a):H a=none:=by
 cases q:H a with
 |none=>rfl
 |some u=>exact absurd (Uv (x.lt q) e) (aat _)
def dS.kept(x:dS P w H h)(k:∀b u,h.get? b=some u->h'.get? b=some u):dS P w H h':=λa o e=>
 (x a o e).stay (λb u _ q=>k b u q) (λ_ q=>q) λ_ _ q=>q
def dS.laid(x:dS P w H h)(k:∀b u,h.get? b=some u->h'.get? b=some u)(z:h.objs.size<=a)(new:dH P w (upd H a o) h' a o):dS P w (upd H a o) h':=λb u e=>by
 have d:=x.fresh z;by_cases f:b=a
 .subst f;rw[e8]at e;exists e;exact new
 .rw[aV f]at e;exact(x b u e).stay (λc v _ q=>k c v q) (λc q=>by rw[aV (bG q d)];exact q) λc xs q=>by rw[aV (bG q d)];exact q
end
def Rd(H:Hp)(a:Addr)(u:HO):Prop:=H a=some u\/∃o,H a=some (.bQ o u)
def Rd.ok(r:Rd H a u)(x:dS P w H h):dH P w H h a u:=by
 rcases r with r|⟨o,r⟩
 .exact x a u r
 .obtain⟨_,q⟩:=x a _ r;exact q
def Cs:Option HO->Prop
 |some (.lst _)=>True
 |some (.dK _)=>True
 |some (.dT _)=>True
 |some (.set _ _)=>True
 |some (.ins _ _ _)=>True
 |some (.ext _)=>True
 |_=>False
section
variable{P:Program}{w:World}{H:Hp}{h h':Heap}{x e:Addr}{o':HO}
def dS.write(ok:dS P w H h)(I:Cs (H x))(Z:e=x\/H e=some (.own x))(k:∀b u,b≠e->h.get? b=some u->h'.get? b=some u)(zj:∃u,h'.get? e=some u)(new:dH P w (upd H x o') h' x o'):dS P w (upd H x o') h':=λb u q=>by
 have LX:∀c y,H c=some (.own y)->c≠x:=λc y r z=>by subst z;rw[r]at I;exact I
 have Vq:∀c xs,H c=some (.tup xs)->c≠x:=λc xs r z=>by subst z;rw[r]at I;exact I
 by_cases a:b=x
 .subst a;rw[e8]at q;exists q;exact new
 .rw[aV a]at q;by_cases d:b=e
  .have g:H b=some (.own x):=by
    rcases Z with z|z
    .exact absurd (d.trans z) a
    .rw[d];exact z
   rw[q]at g;cases g;obtain⟨v,i⟩:=zj;exact⟨v,by rw[d];exact i⟩
  .refine(ok b u q).stay (λc v f r=>k c v ?_ r) (λc r=>by rw[aV (LX c b r)];exact r) λc xs r=>by rw[aV (Vq c xs r)];exact r
   rcases f with rfl|f
   .exact d
   .rintro rfl;rcases Z with z|z
    .exact LX c b f z
    .rw[f]at z;cases z;exact a rfl
end
structure Un(fs ex:Y2)(H H':Hp)(h h':Heap):Prop where
 keep:∀b o,h.get? b=some o->H b=none->b∉fs->b∉ex->h'.get? b=some o
 slot:∀b o,h.get? b=some o->H b=none->b∈fs->b∉ex->∃sl,h'.get? b=some { o with slots:=sl }
 free:∀b o,h.get? b=some o->H b=none->b∉ex->H' b=none
 there:∀b o,h.get? b=some o->b∉ex->∃o',h'.get? b=some o'
 tups:∀b xs,H b=some (.tup xs)->H' b=some (.tup xs)
 kr:∀b o u,H b=some (.bQ o u)->H' b=some (.bQ o u)
 lg:∀b ps,H b=some (.uI ps)->∃more,H' b=some (.uI (ps++more))
section
variable{fs ex:Y2}{H H1:Hp}{h h1 h':Heap}{a x e:Addr}{o:HO}
def Un.any(u:Un fs ex H H1 h h1)(q:h.get? b=some ob)(n:H b=none)(z:b∉ex):∃sl,h1.get? b=some { ob with slots:=sl }:=by
 by_cases c:b∈fs
 .exact u.slot b ob q n c z
 .exact⟨ob.slots,u.keep b ob q n c z⟩
def Un.kept(k:∀b u,h.get? b=some u->h'.get? b=some u):Un fs ex H H h h':=
 ⟨λb c q _ _ _=>k b c q,λb c q _ _ _=>⟨c.slots,k b c q⟩,λ_ _ _ n _=>n,λb c q _=>⟨c,k b c q⟩,λ_ _ q=>q,λ_ _ _ q=>q,λ_ ps q=>⟨#[],by rw[q];simp⟩⟩
def Un.refl:Un fs ex H H h h:=Un.kept λ_ _ q=>q
def Un.laid(k:∀b u,h.get? b=some u->h'.get? b=some u)(I:h.objs.size<=a)(z:H a=none):Un fs ex H (upd H a o) h h' where
 keep:=λb u q _ _ _=>k b u q
 slot:=λb u q _ _ _=>⟨u.slots,k b u q⟩
 free:=λb u q n _=>by rw[aV (ZR (Uv (ZI q) I))];exact n
 there:=λb u q _=>⟨u,k b u q⟩
 tups:=λb xs q=>by rw[aV (bG q z)];exact q
 kr:=λb u xs q=>by rw[aV (bG q z)];exact q
 lg:=λb ps q=>⟨#[],by rw[aV (bG q z),q];simp⟩
def Un.write(I:Cs (H x))(Z:e=x\/H e=some (.own x))(k:∀b u,b≠e->h.get? b=some u->h'.get? b=some u)(zj:∃u,h'.get? e=some u):Un fs ex H (upd H x o) h h':=by
 have d:∀b,H b=none->b≠x:=λb n z=>by subst z;rw[n]at I;exact I
 have f:∀b,H b=none->b≠e:=λb n z=>by
  subst z;rcases Z with r|r
  .exact d b n r
  .rw[n]at r;exists r
 have c:∀b u,H b=some u->¬ Cs (some u)->b≠x:=λb u q i z=>by subst z;rw[q]at I;exact i I
 refine⟨λb u q n _ _=>k b u (f b n) q,λb u q n _ _=>⟨u.slots,k b u (f b n) q⟩,λb u q n _=>by rw[aV (d b n)];exact n,λb u q _=>?_,
  λb xs q=>by rw[aV (c b _ q λz=>z)];exact q,λb u xs q=>by rw[aV (c b _ q λz=>z)];exact q,λb ps q=>⟨#[],by rw[aV (c b _ q λz=>z),q];simp⟩⟩
 by_cases g:b=e
 .subst g;exact zj
 .exact⟨u,k b u g q⟩
end
def Hy(h:Heap)(H:Hp):Y2:=(List.range h.objs.size).filter λa=>(H a).isSome
def mK(h:Heap)(H:Hp):Heap:=W.hideAll h (Hy h H)
def Ct(h:Heap)(H:Hp):(mK h H).objs.size=h.objs.size:=W.hideAll_size _ _
def ET(e:h.get? b=some o)(n:H b=none):(mK h H).get? b=some o:=
 W.hideAll_get _ e λa=>by
  have q:=(List.mem_filter.mp a).2;rw[n]at q;simp at q
def Jr(e:(mK h H).get? b=some o):h.get? b=some o/\H b=none:=by
 have a:=W.of_hideAll (Hy h H) e;refine⟨a,?_⟩;cases q:H b with
 |none=>rfl
 |some x=>
  have c:b∈Hy h H:=List.mem_filter.mpr ⟨List.mem_range.mpr (ZI a),by simp[q]⟩;have z:(mK h H).get? b=none:=W.hideAll_none (Hy h H) c;rw[z]at e;exists e
def Js(g h:Heap)(L:Addr):Ω:=(List.range h.objs.size).filterMap λa=>if a=L\/(g.get? a).isSome=true then none else (h.get? a).map λo=>(a,o)
def rest(g h:Heap)(L d:Addr):Ω:=(Js g h L).filter λp=>decide (p.1≠d)
structure Mod(K:Ψ)(mg:Kx)(base:Heap):Prop where
 dF:K.In base
 glob:base.Ns mainGlobals mg
 blt:∃mb,base.Ns builtinsNs mb/\∀x:Str,x≠"__name__" ->mb x=bootBuiltins x
 nolimit:base.NoLimit
structure Cx where
 prog:Program
 w:World
 K:Ψ
 mg:Kx
 base:Heap
 A:Around
 N:Y1
 s₀:Shared
 H₀:Hp
 env:Env
 outer:List Env
 stack:List Env
 ex:Y2
 fn:Str->Bool
 calm:Bool
 pn:Ω
 xe:Φ
def frs(l:List Env):Y2:=l.filterMap (·.frame)
abbrev Cx.fs(X:Cx):Y2:=frs X.outer
def zk(sc:Scope)(x:Str):Prop:=sc.names.lookup x=some .local\/sc.names.lookup x=some .cell\/sc.names.lookup x=some .free
def Loc(sc:Scope)(x:Str):Prop:=sc.names.lookup x=some .local\/sc.names.lookup x=some .cell
def Look(env:Env)(h:Heap)(m:Kx)(x:Str)(u:Value):Prop:=
 (env.kindOf x=some .local/\m x=some u)\/((env.kindOf x=some .cell\/env.kindOf x=some .free)/\∃c,env.cells.lookup x=some c/\h.IsCell c (some u))
structure Cx.Ok(X:Cx):Prop where
 mod:Mod X.K X.mg X.base
 kind:X.env.scope.kind=.function
 glob:X.env.globals=mainGlobals
 blt:X.env.builtins=builtinsNs
 above:X.s₀.heap.objs.size<=X.env.locals
 inj:∀x y c,X.env.cells.lookup x=some c->X.env.cells.lookup y=some c->x=y
 has:∀x,(X.env.kindOf x=some .cell\/X.env.kindOf x=some .free)->∃c,X.env.cells.lookup x=some c
 wm:∀x c,X.fn x=true->X.env.cells.lookup x=some c->X.s₀.heap.objs.size<=c
 hd:X.calm=true->X.A.handled=none
 frames:X.A.frames=some X.stack
 stk:X.stack=X.outer\/(X.stack=X.env :: X.outer/\X.env.frame=some X.env.locals)
 Cu:∀b∈X.ex,b≠X.env.locals/\∀x c,X.env.cells.lookup x=some c->c≠b
 bs:∀b o,X.base.get? b=some o->X.s₀.heap.get? b=some o/\X.H₀ b=none
 qW:X.base.objs.size<=X.s₀.heap.objs.size
 ql:∀b o,X.base.get? b=some o->b∉X.ex
 qm:∀b∈X.ex,b∉X.fs
 jm:X.s₀.heap.FunFrames X.base X.outer
 uJ:∀b∈X.fs,X.H₀ b=none
structure Inv(X:Cx)(pins:Ω)(σ:List (Option V))(H:Hp)(s:Shared):Prop where
 ok:X.Ok
 os:s.os=X.s₀.os
 bare:AllBare s.gens
 base:Un X.fs X.ex X.H₀ H X.s₀.heap s.heap
 loc:∃m,s.heap.Ns X.env.locals m/\∀(i:Nat) (x:Str) (v:V),X.N[i]?=some x->σ[i]?=some (some v)->zk X.env.scope x->∃u,RelV v u/\Look X.env s.heap m x u
 cell:∀x c,X.env.cells.lookup x=some c->∃v,s.heap.IsCell c v
 free:H X.env.locals=none
 gk:∀x c,X.env.cells.lookup x=some c->H c=none
 pin:∀p∈X.pn++pins,s.heap.get? p.1=some p.2/\H p.1=none/\p.1≠X.env.locals/\p.1∉X.fs/\∀v,p.2.data≠.cell v
 hok:dS X.prog X.w H s.heap
 len:σ.length=X.N.length
section
variable{X:Cx}{pins:Ω}{σ:List (Option V)}{H H':Hp}{s:Shared}{h':Heap}
def Cx.Ok.Vr(ok:X.Ok)(e:X.base.get? b=some o):b∉X.fs:=λa=>by
 have:=(ok.jm.mem a).1;rw[e]at this;exists this
theorem Inv.bs(I:Inv X pins σ H s):∀b o,X.base.get? b=some o->s.heap.get? b=some o/\H b=none:=λb o e=>
 ⟨I.base.keep b o (I.ok.bs b o e).1 (I.ok.bs b o e).2 (I.ok.Vr e) (I.ok.ql b o e),I.base.free b o (I.ok.bs b o e).1 (I.ok.bs b o e).2 (I.ok.ql b o e)⟩
def Inv.bk(I:Inv X pins σ H s):∀b o,X.base.get? b=some o->s.heap.get? b=some o:=λb o e=>(I.bs b o e).1
theorem Inv.mod(I:Inv X pins σ H s):Mod X.K X.mg X.base:=I.ok.mod
def Inv.lT(I:Inv X pins σ H s):X.K.In s.heap:=I.ok.mod.dF.keeps I.bk
theorem Inv.lt(I:Inv X pins σ H s):X.env.locals<s.heap.objs.size:=let ⟨_,hn,_⟩:=I.loc;hn.lt
def Inv.sz(I:Inv X pins σ H s):X.s₀.heap.objs.size<=s.heap.objs.size:=ZL I.ok.above (ab2 I.lt)
def Inv.Vs(I:Inv X pins σ H s){a:Addr}(h:s.heap.objs.size<=a):a∉X.fs:=λb=>by
 obtain⟨_,o,c,_⟩:=I.ok.jm.mem b;exact absurd (Uv (ZI c) (ZL I.sz h)) (aat _)
def Inv.nG(I:Inv X pins σ H s):∀x c,X.env.cells.lookup x=some c->c≠X.env.locals:=λx c e z=>by
 obtain⟨v,o,d,f⟩:=I.cell x c e;obtain⟨m,⟨g,h,i,a,b,_⟩,_⟩:=I.loc;rw[z,a]at d;exists d;rw[b]at f;exists f
theorem Inv.jm(I:Inv X pins σ H s):s.heap.FunFrames X.base X.outer:=by
 have all:∀(l:List Env),(∀b∈frs l,b∈X.fs)->X.s₀.heap.FunFrames X.base l->s.heap.FunFrames X.base l:=by
  intro l;induction l with
  |nil=>intro _ _;trivial
  |cons g r h=>
   intro f i;obtain⟨j,⟨L,o,a,p,q,y⟩,A⟩:=i;have c:=f L (by unfold frs;rw[ZZ,a];exact ZX);obtain⟨B,e⟩:=I.base.slot L o q (I.ok.uJ L c) c λz=>I.ok.qm L z c;exact⟨j,⟨L,_,a,p,e,y⟩,h (λb d=>f b (by unfold frs;rw[ZZ,a];exact ZN _ d)) A⟩
 exact all X.outer (λ_ d=>d) I.ok.jm
theorem Inv.stack(I:Inv X pins σ H s):s.heap.FunFrames X.base X.stack:=by
 rcases I.ok.stk with e|⟨e,a⟩
 .rw[e];exact I.jm
 .rw[e];obtain⟨m,b,_⟩:=I.loc;refine .cons (by rw[I.ok.kind];decide) a b ?_ I.jm;exact Heap.get?_none_of_le (ZL I.ok.qW I.ok.above)
def Inv.qX(I:Inv X pins σ H s):∀b∈frs X.stack,b∈X.env.locals :: X.fs:=λb a=>by
 rcases I.ok.stk with e|⟨e,c⟩
 .rw[e]at a;exact ZN _ a
 .rw[e]at a;unfold frs at a;rw[ZZ,c]at a;exact a
def Inv.tO(I:Inv X pins σ H s):∀b∈frs X.stack,H b=none:=λb a=>by
 rcases qE (I.qX b a)with e|a
 .rw[e];exact I.free
 .obtain⟨_,o,c,_⟩:=I.ok.jm.mem a;exact I.base.free b o c (I.ok.uJ b a) λz=>I.ok.qm b z a
def Inv.step{ch:Y2}(I:Inv X pins σ H s)(Z:∀b∈ch,(b∈X.ex\/X.s₀.heap.objs.size<=b)/\b≠X.env.locals/\(∀x c,X.env.cells.lookup x=some c->c≠b)/\∀p∈X.pn++pins,p.1≠b)(keep:∀b o,b≠X.env.locals->b∉X.fs->b∉ch->s.heap.get? b=some o->H b=none->h'.get? b=some o)(slot:∀b o,b≠X.env.locals->b∈X.fs->b∉ch->s.heap.get? b=some o->H b=none->∃sl,h'.get? b=some { o with slots:=sl })(free:∀b o,b∉ch->s.heap.get? b=some o->H b=none->H' b=none)(there:∀b o,b∉ch->s.heap.get? b=some o->∃o',h'.get? b=some o')(tups:∀b xs,H b=some (.tup xs)->H' b=some (.tup xs))(kr:∀b o u,H b=some (.bQ o u)->H' b=some (.bQ o u))(lg:∀b ps,H b=some (.uI ps)->∃more,H' b=some (.uI (ps++more)))(ns:∀m,s.heap.Ns X.env.locals m->h'.Ns X.env.locals m)(hok:dS X.prog X.w H' h')(hg:AllBare g'):
  Inv X pins σ H' { s with heap:=h',gens:=g',drawn:=d',toks:=t' }:=by
 have S8:∀b o,X.s₀.heap.get? b=some o->b≠X.env.locals:=λb o e=>ZR (Uv (ZI e) I.ok.above);have Hz:∀b o,X.s₀.heap.get? b=some o->b∉X.ex->b∉ch:=λb o e a h=>by
  rcases(Z b h).1 with z|z
  .exact a z
  .exact absurd (Uv (ZI e) z) (aat _)
 have f:∀x c,X.env.cells.lookup x=some c->∀v,s.heap.IsCell c v->h'.IsCell c v:=λx c e v ⟨o,j,A⟩=>by
  have Cv:=λz=>(Z c z).2.2.1 x c e rfl;by_cases B:c∈X.fs
  .obtain⟨sl,q⟩:=slot c o (I.nG x c e) B Cv j (I.gk x c e);exact⟨_,q,A⟩
  .exact⟨o,keep c o (I.nG x c e) B Cv j (I.gk x c e),A⟩
 refine⟨I.ok,I.os,hg,⟨λb o e n h a=>?_,λb o e n h a=>?_,λb o e n a=>?_,λb o e a=>?_,λb xs e=>tups b xs (I.base.tups b xs e),λb o xs e=>kr b o xs (I.base.kr b o xs e),λb ps e=>?_⟩,?_,λx c e=>?_,?_,λx c e=>?_,λp C=>?_,hok,I.len⟩
 .exact keep b o (S8 b o e) h (Hz b o e a) (I.base.keep b o e n h a) (I.base.free b o e n a)
 .obtain⟨sl,g⟩:=I.base.slot b o e n h a;obtain⟨WM,y⟩:=slot b _ (S8 b o e) h (Hz b o e a) g (I.base.free b o e n a);exact⟨WM,y⟩
 .obtain⟨o',g⟩:=I.base.there b o e a;exact free b o' (Hz b o e a) g (I.base.free b o e n a)
 .obtain⟨o',g⟩:=I.base.there b o e a;exact there b o' (Hz b o e a) g
 .obtain⟨J,g⟩:=I.base.lg b ps e;obtain⟨K,y⟩:=lg b _ g;exact⟨J++K,by rw[y,Array.append_assoc]⟩
 .obtain⟨m,L,M⟩:=I.loc;refine⟨m,ns m L,λi x v g y N=>?_⟩;obtain⟨u,r,l⟩:=M i x v g y N;refine⟨u,r,?_⟩;rcases l with l|⟨k,c,e,z⟩
  .exact .inl l
  .exact .inr ⟨k,c,e,f x c e _ z⟩
 .obtain⟨v,z⟩:=I.cell x c e;exact⟨v,f x c e v z⟩
 .obtain⟨m,⟨o,_,_,j,_⟩,_⟩:=I.loc;exact free _ o (λz=>(Z _ z).2.1 rfl) j I.free
 .obtain⟨v,o,j,A⟩:=I.cell x c e;exact free c o (λz=>(Z c z).2.2.1 x c e rfl) j (I.gk x c e)
 .obtain⟨e,n,F,G,d⟩:=I.pin p C;have Cv:=λz=>(Z p.1 z).2.2.2 p C rfl;exact⟨keep p.1 p.2 F G Cv e n,free p.1 p.2 Cv e n,F,G,d⟩
def Inv.un(I:Inv X pins σ H s)(u:Un X.fs [] H H' s.heap h')(hok:dS X.prog X.w H' h'):Inv X pins σ H' { s with heap:=h',toks:=t' }:=by
 obtain⟨m,⟨o,j,l,f,r⟩,_⟩:=id I.loc;obtain⟨p,g⟩:=u.any f I.free (by simp);exact I.step (ch:=[]) (λ_ z=>nomatch z) (λb o _ c _ e n=>u.keep b o e n c (by simp)) (λb o _ c _ e n=>u.slot b o e n c (by simp)) (λb o _ e n=>u.free b o e n (by simp)) (λb o _ e=>u.there b o e (by simp)) u.tups u.kr u.lg (λq h=>by
  obtain⟨y,d,LY,a,i⟩:=h;rw[f]at a;exists a;exact⟨_,d,LY,g,i⟩) hok I.bare
def Inv.call(I:Inv X pins σ H s)(u:Un (frs X.stack) ch H H' s.heap h')(hok:dS X.prog X.w H' h')(hg:AllBare g')(Z:∀b∈ch,(b∈X.ex\/X.s₀.heap.objs.size<=b)/\b≠X.env.locals/\(∀x c,X.env.cells.lookup x=some c->c≠b)/\∀p∈X.pn++pins,p.1≠b):
  Inv X pins σ H' { s with heap:=h',gens:=g',drawn:=d',toks:=t' }:=by
 obtain⟨m,⟨o,q,y,h,r⟩,_⟩:=id I.loc;obtain⟨A,f⟩:=u.any h I.free λz=>(Z _ z).2.1 rfl;exact I.step Z (λb o f i a e n=>u.keep b o e n (λz=>(qE (I.qX b z)).elim f i) a) (λb o _ _ a e n=>u.any e n a) (λb o a e n=>u.free b o e n a) (λb o a e=>u.there b o e a) u.tups u.kr u.lg (λB j=>by
  obtain⟨C,g,LY,d,l⟩:=j;rw[h]at d;exists d;exact⟨_,g,LY,f,l⟩) hok hg
def Inv.turned(I:Inv X pins σ H s)(k:∀b o,b≠it->s.heap.get? b=some o->h'.get? b=some o)(hn:H it=none)(Z:it≠X.env.locals)(h1:it∈X.ex\/X.s₀.heap.objs.size<=it)(h2:∀x c,X.env.cells.lookup x=some c->c≠it)(h3:∀p∈X.pn++pins,p.1≠it):Inv X pins σ H { s with heap:=h',toks:=t' }:=by
 have Cw:∀b u,H b=some u->b≠it:=λb u e z=>by rw[z,hn]at e;exists e
 refine I.step (ch:=[it]) (λb d=>?_) (λb o _ _ a e _=>k b o (λz=>a (by simp[z])) e) (λb o _ _ a e _=>⟨o.slots,k b o (λz=>a (by simp[z])) e⟩) (λ_ _ _ _ n=>n)
  (λb o a e=>⟨o,k b o (λz=>a (by simp[z])) e⟩) (λ_ _ e=>e) (λ_ _ _ e=>e) (λb ps e=>⟨#[],by rw[e];simp⟩) (λm f=>?_) (λb u e=>?_) I.bare
 .have e:b=it:=by simpa using d
  subst e;exact⟨h1,Z,h2,h3⟩
 .obtain⟨o,g,h,i,r⟩:=f;exact⟨o,g,h,k _ o (aav Z) i,r⟩
 .refine(I.hok b u e).stay (λc v a q=>k c v ?_ q) (λ_ q=>q) λ_ _ q=>q;rcases a with z|z
  .rw[z];exact Cw b u e
  .exact Cw c _ z
def Inv.tok(I:Inv X pins σ H s)(t:Nat):Inv X pins σ H { s with toks:=t }:=I.un Un.refl I.hok
theorem Inv.kept(I:Inv X pins σ H s)(k:∀b u,s.heap.get? b=some u->h'.get? b=some u):Inv X pins σ H { s with heap:=h',toks:=t' }:=I.un (Un.kept k) (I.hok.kept k)
theorem Inv.laid{a:Addr}{o:HO}{t':Nat}(I:Inv X pins σ H s)(k:∀b u,s.heap.get? b=some u->h'.get? b=some u)(z:s.heap.objs.size<=a)(new:dH X.prog X.w (upd H a o) h' a o):
  Inv X pins σ (upd H a o) { s with heap:=h',toks:=t' }:=I.un (Un.laid k z (I.hok.fresh z)) (I.hok.laid k z new)
theorem Inv.write(I:Inv X pins σ H s)(z:Cs (H x))(Z:e=x\/H e=some (.own x))(k:∀b u,b≠e->s.heap.get? b=some u->h'.get? b=some u)(zj:∃u,h'.get? e=some u)(new:dH X.prog X.w (upd H x o) h' x o):Inv X pins σ (upd H x o) { s with heap:=h',toks:=t' }:=I.un (Un.write z Z k zj) (I.hok.write z Z k zj new)
def Inv.zl(I:Inv X pins σ H s)(h:∀p∈Rf,s.heap.get? p.1=some p.2/\H p.1=none/\p.1≠X.env.locals/\p.1∉X.fs/\∀v,p.2.data≠.cell v):Inv X Rf σ H s:=
 ⟨I.ok,I.os,I.bare,I.base,I.loc,I.cell,I.free,I.gk,λp a=>(kS a).elim (λz=>I.pin p (acv _ z)) (h p),I.hok,I.len⟩
def qo{N:Y1}(z:N.Nodup){i j:Nat}(a:N[i]?=some x)(b:N[j]?=some x):i=j:=by
 obtain⟨e,c⟩:=gL a;obtain⟨f,d⟩:=gL b;exact(List.getElem_inj z).mp (c.trans d.symm)
def uK(I:Inv X pins σ H s)(hN:X.N.Nodup)(hi:X.N[i]?=some x)(hx:Loc X.env.scope x)(r:RelV v u)(h:∀s',Inv X pins (σ.set i (some v)) H s'->(∃a,Heap.SameBut a s.heap s'.heap/\(a=X.env.locals\/X.env.cells.lookup x=some a))->Q () s')(hf:X.fn x=true\/X.env.scope.names.lookup x=some .local:=by first|exact .inl rfl|exact .inr rfl|assumption):wpAny M A (storeName X.env x u) Q E s:=by
 obtain⟨m,hn,hl⟩:=id I.loc;have P:(X.env.scope.kind==.class || (X.env.scope.kind==.module&&X.env.locals != X.env.globals))=false:=by rw[I.ok.kind];rfl
 have AZ:i<σ.length:=by rw[I.len];exact(gL hi).1
 have nG:=I.nG;have g:∀{a:Addr} {h':Heap},(∃o,s.heap.get? a=some o/\H a=none)->Heap.SameBut a s.heap h'->dS X.prog X.w H h':=λ{a h'} ha f b ob e=>by
  obtain⟨_,_,C⟩:=ha;refine(I.hok b ob e).stay (λc w' B q=>(f.2 c ?_).trans q) (λ_ q=>q) λ_ _ q=>q;rintro rfl;rcases B with rfl|B
  .rw[C]at e;exists e
  .rw[C]at B;exists B
 rcases hx with G|G
 .refine wpAny_storeName_local G hn (λh' hn' f=>?_) P;obtain⟨oL,_,_,pW,_⟩:=id hn;refine h _ ⟨I.ok,I.os,I.bare,⟨λb o e n J hx=>?_,λb o e n J hx=>?_,I.base.free,λb o e hx=>?_,I.base.tups,I.base.kr,I.base.lg⟩,⟨_,hn',λj y v' l F e3=>?_⟩,λy c e=>?_,I.free,I.gk,λp hp=>?_,g ⟨oL,pW,I.free⟩ f,by simpa using I.len⟩ ⟨_,f,.inl rfl⟩
  .exact(f.2 b (ZR (Uv (ZI e) I.ok.above))).trans (I.base.keep b o e n J hx)
  .obtain⟨sl,l⟩:=I.base.slot b o e n J hx;exact⟨sl,(f.2 b (ZR (Uv (ZI e) I.ok.above))).trans l⟩
  .obtain⟨o',l⟩:=I.base.there b o e hx;exact⟨o',(f.2 b (ZR (Uv (ZI e) I.ok.above))).trans l⟩
  .by_cases K:j=i
   .subst K;rw[hi]at l;exists l;rw[Jb AZ]at F;cases F;exact⟨u,r,.inl ⟨G,by simp⟩⟩
   .rw[AN (aav K)]at F;obtain⟨u',r',q⟩:=hl j y v' l F e3;refine⟨u',r',?_⟩;rcases q with ⟨k,e⟩|⟨k,c,e,z⟩
    .refine .inl ⟨k,?_⟩;have:y≠x:=λe=>K (qo hN l (e▸hi));simp[this,e]
    .exact .inr ⟨k,c,e,z.sameBut f (nG y c e)⟩
  .obtain⟨w',z⟩:=I.cell y c e;exact⟨w',z.sameBut f (nG y c e)⟩
  .obtain⟨e,n,ne,nf,d⟩:=I.pin p hp;exact⟨(f.2 p.1 ne).trans e,n,ne,nf,d⟩
 .have L:X.fn x=true:=by
   rcases hf with z|z
   .exact z
   .rw[z]at G;cases G
  obtain⟨c,B⟩:=I.ok.has x (.inl G);obtain⟨w',z⟩:=I.cell x c B;refine wpAny_storeName_cell I.ok.kind G B z (λh' W f=>?_);obtain⟨oc,Y,Vt⟩:=id z;refine h { s with heap:=h' } ⟨I.ok,I.os,I.bare,⟨λb o e n J hx=>?_,λb o e n J hx=>?_,I.base.free,λb o e hx=>?_,I.base.tups,I.base.kr,I.base.lg⟩,⟨m,hn.sameBut f (aav (nG x c B)),λj y v' l F e3=>?_⟩,λy c' e=>?_,I.free,I.gk,λp hp=>?_,g ⟨oc,Y,I.gk x c B⟩ f,by simpa using I.len⟩ ⟨c,f,.inr B⟩
  .exact(f.2 b (ZR (Uv (ZI e) (I.ok.wm x c L B)))).trans (I.base.keep b o e n J hx)
  .obtain⟨sl,l⟩:=I.base.slot b o e n J hx;exact⟨sl,(f.2 b (ZR (Uv (ZI e) (I.ok.wm x c L B)))).trans l⟩
  .obtain⟨o',l⟩:=I.base.there b o e hx;exact⟨o',(f.2 b (ZR (Uv (ZI e) (I.ok.wm x c L B)))).trans l⟩
  .by_cases K:j=i
   .subst K;rw[hi]at l;exists l;rw[Jb AZ]at F;cases F;exact⟨u,r,.inr ⟨.inl G,c,B,W⟩⟩
   .rw[AN (aav K)]at F;obtain⟨u',r',q⟩:=hl j y v' l F e3;refine⟨u',r',?_⟩;rcases q with q|⟨k,c',e,z'⟩
    .exact .inl q
    .refine .inr ⟨k,c',e,z'.sameBut f ?_⟩;rintro rfl;exact K (qo hN l (I.ok.inj _ _ _ e B▸hi))
  .by_cases Z:c'=c
   .subst Z;exact⟨_,W⟩
   .obtain⟨w2,z2⟩:=I.cell y c' e;exact⟨w2,z2.sameBut f Z⟩
  .obtain⟨e,n,ne,nf,d⟩:=I.pin p hp;refine⟨(f.2 p.1 ?_).trans e,n,ne,nf,d⟩;intro q;rw[q,Y]at e;have q':oc=p.2:=ZP e;exact d w' (by rw[<-q'];exact Vt)
def qp(I:Inv X pins σ H s)(z:X.N.Nodup)(hi:X.N[i]?=some x)(Z:Loc X.env.scope x)(r:RelV v u)(h:∀s',Inv X pins (σ.set i (some v)) H s'->Q () s')(hf:X.fn x=true\/X.env.scope.names.lookup x=some .local:=by first|exact .inl rfl|exact .inr rfl|assumption):wpAny M A (storeName X.env x u) Q E s:=
 uK I z hi Z r (λs' I' _=>h s' I') hf
def Inv.A2(I:Inv X pins σ H s)(Z:s'.os=s.os)(u:Un (frs X.stack) ch H H' s.heap s'.heap)(hok:dS X.prog X.w H' s'.heap)(hg:AllBare s'.gens)(z:∀b∈ch,(b∈X.ex\/X.s₀.heap.objs.size<=b)/\b≠X.env.locals/\(∀x c,X.env.cells.lookup x=some c->c≠b)/\∀p∈X.pn++pins,p.1≠b):Inv X pins σ H' s':=by
 obtain⟨h',a,d,f,g⟩:=s';have e:=Z;subst e;exact I.call u hok hg z
end
abbrev XK:=Value->Option Addr->Hp->Prop
abbrev St:=List (Option V)
abbrev VK:=V->Hp->Prop
abbrev TE:=St->Hp->VK->Prop
abbrev TT:=St->Hp->(Bool->Hp->Prop)->Prop
abbrev TA:=St->Hp->(List V->Hp->Prop)->Prop
structure Ends where
 nx:St->Hp->Prop
 rt:VK
 bk:St->Hp->Prop:=λ_ _=>False
 ct:St->Hp->Prop:=λ_ _=>False
abbrev TS:=Ends->St->Hp->Prop
def EP(X:Cx)(pins:Ω)(σ:St)(Q:VK)(u:Value)(s':Shared):Prop:=∃v H',Inv X pins σ H' s'/\RelV v u/\Q v H'
def TP(X:Cx)(pins:Ω)(σ:St)(Q:Bool->Hp->Prop)(b:Bool)(s':Shared):Prop:=∃H',Inv X pins σ H' s'/\Q b H'
def AP(X:Cx)(pins:Ω)(σ:St)(Q:List V->Hp->Prop)(us:W1)(s':Shared):Prop:=∃vs H',Inv X pins σ H' s'/\Vals vs us/\Q vs H'
def SP(X:Cx)(pins:Ω)(D:Ends)(f:Flow)(s':Shared):Prop:=
 match f with
 |.next=>∃σ' H',Inv X pins σ' H' s'/\D.nx σ' H'
 |.brk=>∃σ' H',Inv X pins σ' H' s'/\D.bk σ' H'
 |.cont=>∃σ' H',Inv X pins σ' H' s'/\D.ct σ' H'
 |.ret u=>∃v σ' H',Inv X pins σ' H' s'/\RelV v u/\D.rt v H'
def PE(X:Cx)(e:Expr)(t:TE):Prop:=
 ∀(pins:Ω) (s:Shared) (σ:St) (H:Hp) (Q:VK),Inv X pins σ H s->t σ H Q->wpAny (model X.prog X.w) X.A (eval e X.env) (EP X pins σ Q) X.xe s
def PT(X:Cx)(e:Expr)(t:TT):Prop:=
 ∀(pins:Ω) (s:Shared) (σ:St) (H:Hp) (Q:Bool->Hp->Prop),Inv X pins σ H s->t σ H Q->wpAny (model X.prog X.w) X.A (isTrue e X.env (eval e X.env)) (TP X pins σ Q) X.xe s
def PW(X:Cx)(e:Expr)(t:TT):Prop:=
 ∀(whole:Sem Value) (pins:Ω) (s:Shared) (σ:St) (H:Hp) (Q:Bool->Hp->Prop),Inv X pins σ H s->t σ H Q->wpAny (model X.prog X.w) X.A (isTrue e X.env whole) (TP X pins σ Q) X.xe s
def PW.pt(h:PW X e t):PT X e t:=h _
def PA(X:Cx)(es:Kj)(t:TA):Prop:=
 ∀(pos:Pos) (pins:Ω) (s:Shared) (σ:St) (H:Hp) (Q:List V->Hp->Prop),Inv X pins σ H s->t σ H Q->wpAny (model X.prog X.w) X.A (spliced (backTo pos (starEach es X.env))) (AP X pins σ Q) X.xe s
def PS(X:Cx)(st:Stmt)(t:TS):Prop:=
 ∀(pins:Ω) (s:Shared) (σ:St) (H:Hp) (D:Ends),Inv X pins σ H s->t D σ H->wpAny (model X.prog X.w) X.A (exec st X.env) (SP X pins D) X.xe s
def gm(X:Cx)(st:List Stmt)(t:TS):Prop:=
 ∀(pins:Ω) (s:Shared) (σ:St) (H:Hp) (D:Ends),Inv X pins σ H s->t D σ H->wpAny (model X.prog X.w) X.A (execs st X.env) (SP X pins D) X.xe s
def bI{α:Type}{t:Sem α}{Q z:α->Shared->Prop}(h:wpAny M A t Q E s)(I:∀a s,Q a s->z a s):wpAny M A t z E s:=ZT h I λ_ _ x=>x
section
variable{X:Cx}
def bin{a b:Expr}{Z tb:TE}(ha:PE X a Z)(hb:PE X b tb){pins:Ω}{s:Shared}{σ:St}{H:Hp}{R:V->V->Hp->Prop}(I:Inv X pins σ H s)(h:Z σ H λx z=>tb σ z λy H2=>R x y H2){α:Type}{Q:α->Shared->Prop}{f:Value->Value->Sem α}(hf:∀v u s2 x y H2,Inv X pins σ H2 s2->RelV x v->RelV y u->R x y H2->wpAny (model X.prog X.w) X.A (f v u) Q X.xe s2):
  wpAny (model X.prog X.w) X.A (eval a X.env) (λv s₁=>wpAny (model X.prog X.w) X.A (eval b X.env) (λu s₂=>wpAny (model X.prog X.w) X.A (f v u) Q X.xe s₂) X.xe s₁) X.xe s:=by
 refine bI (ha pins s σ H _ I h) λv s1 zr=>?_;obtain⟨x,z,I1,c,d⟩:=zr;refine bI (hb pins s1 σ z _ I1 d) λu s2 zr=>?_;obtain⟨y,H2,I2,e,g⟩:=zr;exact hf v u s2 x y H2 I2 c e g
def LZ(i:Nat):TE:=λσ H Q=>∃v,σ[i]?=some (some v)/\Q v H
def tC(v:V):TE:=λ_ H Q=>Q v H
def wo{i:Nat}{x:Str}{z:Pos}(hN:X.N[i]?=some x)(hv:zk X.env.scope x)(hd:(x==("__debug__":Str))=false:=by decide)(Z:(x==("__classdict__":Str))=false:=by decide):PE X (.Name x z) (LZ i):=by
 intro d s σ H Q I h;obtain⟨v,e,h⟩:=h;obtain⟨m,g,j⟩:=I.loc;obtain⟨u,r,l⟩:=j i x v hN e hv;have fin:EP X d σ Q u s:=⟨v,H,I,r,h⟩
 rcases l with ⟨b,o⟩|⟨b,c,f,a⟩
 .exact acs (wpAny_loadName_local I.ok.kind b g o fin) hd
 .rcases b with b|b
  .exact acs (wpAny_loadName_cell I.ok.kind b f a fin) hd
  .exact acs (wpAny_loadName_free I.ok.kind b f a fin Z) hd
def L0:PE X (.Constant (.int i) j pos) (tC (.int i)):=λ_ _ _ H _ I h=>wpAny_Constant_int ⟨.int i,H,I.tok _,⟨_,rfl⟩,h⟩
def HA:PE X (.Constant (.bool b) j pos) (tC (.bl b)):=λ_ _ _ H _ I h=>Constant_bool ⟨.bl b,H,I,rfl,h⟩
def L1:PE X (.Constant .none j pos) (tC .aU):=λ_ _ _ H _ I h=>Constant_none ⟨.aU,H,I,rfl,h⟩
def L3:PE X (.Constant (.str x) j pos) (tC (.str x)):=λ_ _ _ H _ I h=>Calls.Constant_str ⟨.str x,H,I.tok _,⟨_,rfl⟩,h⟩
def Gl(X:Cx)(x:Str):Prop:=X.env.kindOf x=some .globalImplicit
def o8{E:Φ}{pins:Ω}{s:Shared}{σ:St}{H:Hp}{x:Str}{u:Value}{z:Pos}{Q:Φ}(I:Inv X pins σ H s)(Z:Gl X x)(hm:X.mg x=some u)(h:Q u s)(hd:(x==("__debug__":Str))=false:=by decide):wpAny (model X.prog X.w) X.A (eval (.Name x z) X.env) Q E s:=
 aaJ I.ok.kind Z (abf (by rw[I.ok.glob];exact I.mod.glob.keeps I.bk) hm h) hd
def jN{E:Φ}{pins:Ω}{s:Shared}{σ:St}{H:Hp}{x:Str}{u:Value}{z:Pos}{Q:Φ}(I:Inv X pins σ H s)(Z:Gl X x)(hm:X.mg x=none)(hv:bootBuiltins x=some u)(h:Q u s)(hn:x≠"__name__" :=by decide)(hd:(x==("__debug__":Str))=false:=by decide):wpAny (model X.prog X.w) X.A (eval (.Name x z) X.env) Q E s:=by
 obtain⟨c,a,b⟩:=I.mod.blt;exact aaJ I.ok.kind Z (Calls.loadGlobal_builtin (by rw[I.ok.glob];exact I.mod.glob.keeps I.bk) hm (by rw[I.ok.blt];exact a.keeps I.bk) ((b x hn).trans hv) h) hd
def zm(z:Gl X x)(Z:X.mg x=some u)(r:RelV v u)(hd:(x==("__debug__":Str))=false:=by decide):PE X (.Name x pos) (tC v):=
 λ_ _ _ H _ I h=>o8 I z Z ⟨v,H,I,r,h⟩ hd
variable{a b:Expr}{ta tb:TE}{pos:Pos}
variable{tA HC:TT}{rest:Kj}
def Vu(t u:TT):TT:=λσ H Q=>t σ H λc H1=>if c=true then u σ H1 Q else Q false H1
def WN(t u:TT):TT:=λσ H Q=>t σ H λc H1=>if c=true then Q true H1 else u σ H1 Q
def Vv(t:TT):TT:=λσ H Q=>t σ H λc H1=>Q (!c) H1
def Jt(z:PT X a tA):PW X (.BoolOp .And [a] pos) tA:=by
 intro f d s σ H Q I h;refine isTrue_and (bI (z d s σ H Q I h) λc s1 e=>?_);cases c with
 |true=>exact isTrue_and_nil e
 |false=>exact e
def L4(z:PT X a tA):PW X (.BoolOp .Or [a] pos) tA:=by
 intro f d s σ H Q I h;refine isTrue_or (bI (z d s σ H Q I h) λc s1 e=>?_);cases c with
 |false=>exact isTrue_or_nil e
 |true=>exact e
def L5(z:PT X a tA)(Z:PW X (.BoolOp .And (b :: rest) pos) HC):PW X (.BoolOp .And (a :: b :: rest) pos) (Vu tA HC):=by
 intro f d s σ H Q I h;refine isTrue_and (bI (z d s σ H _ I h) λc s1 zr=>?_);obtain⟨H1,I1,e⟩:=zr;cases c with
 |true=>exact Z f d s1 σ H1 Q I1 e
 |false=>exact⟨H1,I1,e⟩
def Rg(z:PT X a tA)(Z:PW X (.BoolOp .Or (b :: rest) pos) HC):PW X (.BoolOp .Or (a :: b :: rest) pos) (WN tA HC):=by
 intro f d s σ H Q I h;refine isTrue_or (bI (z d s σ H _ I h) λc s1 zr=>?_);obtain⟨H1,I1,e⟩:=zr;cases c with
 |true=>exact⟨H1,I1,e⟩
 |false=>exact Z f d s1 σ H1 Q I1 e
def L6(z:PT X a tA):PT X (.UnaryOp .Not a pos) (Vv tA):=by
 intro d s σ H Q I h;exact isTrue_not (z d s σ H (λc H1=>Q (!c) H1) I h)
def Rh(ta tb:TE):TE:=λσ H Q=>ta σ H λx H1=>∃c,x=.bl c/\if c=true then tb σ H1 Q else Q (.bl false) H1
def L7(h:PE X a t):PE X (.BoolOp op [a] pos) t:=λpins s σ H Q I hw=>BoolOp_one (h pins s σ H Q I hw)
def L8(z:PE X a ta)(Z:PE X (.BoolOp .And (b :: rest) pos) tb):PE X (.BoolOp .And (a :: b :: rest) pos) (Rh ta tb):=by
 intro d s σ H Q I h;refine BoolOp_and (bI (z d s σ H _ I h) λv s1 zr=>?_);obtain⟨x,H1,I1,f,e⟩:=zr;obtain⟨c,rfl,e⟩:=e;cases f;refine aaK ?_;cases c with
 |true=>exact Z d s1 σ H1 Q I1 e
 |false=>exact⟨.bl false,H1,I1,rfl,e⟩
def WO(t:TT)(ta tb:TE):TE:=λσ H Q=>t σ H λc H1=>if c=true then ta σ H1 Q else tb σ H1 Q
def EU(hc:PT X c tA)(z:PE X a ta)(Z:PE X b tb):PE X (.IfExp c a b pos) (WO tA ta tb):=by
 intro e s σ H Q I h;refine wpAny_IfExp (bI (hc e s σ H _ I h) λd s1 zr=>?_);obtain⟨H1,I1,f⟩:=zr;cases d with
 |true=>exact z e s1 σ H1 Q I1 f
 |false=>exact Z e s1 σ H1 Q I1 f
end
def fJ(K:Ψ)(H:Hp)(a:Addr)(xs:Ty):Prop:=
 Rd H a (.lst xs)\/
  ∃(o:Obj) (its:Array Value) (n:Nat),K.lookup a=some o/\o.cls=.type "list" /\o.dict=none/\o.data=.seq its n/\its.size<=sizeLine/\Vals xs its.toList
def dN(K:Ψ)(H:Hp)(a:Addr)(xs:Ty):Prop:=
 Rd H a (.tup xs)\/
  ∃(o:Obj) (its:Array Value) (n:Nat),K.lookup a=some o/\o.cls=.type "tuple" /\o.data=.seq its n/\its.size<=sizeLine/\Vals xs its.toList
def Vw:Value->Option V
 |.none=>some .aU
 |.bool b=>some (.bl b)
 |.int i _=>some (.int i)
 |.str x _=>some (.str x)
 |.bytes b _=>some (.Cr b)
 |.float b _=>some (.LW b)
 |.ref a=>some (.ref a)
 |.type n=>some (.ty n)
 |_=>none
def RelV.abs(r:RelV x u):Vw u=some x:=by
 cases x with
 |aU=>cases r;rfl
 |bl _=>cases r;rfl
 |int _=>obtain⟨t,rfl⟩:=r;rfl
 |str _=>obtain⟨t,rfl⟩:=r;rfl
 |Cr _=>obtain⟨t,rfl⟩:=r;rfl
 |LW _=>obtain⟨t,rfl⟩:=r;rfl
 |ref _=>cases r;rfl
 |ty _=>cases r;rfl
theorem RelV.inj(r:RelV x u)(q:RelV y u):x=y:=ZP (r.abs.symm.trans q.abs)
theorem Vals.inj:∀{xs z:Ty}{us:W1},Vals xs us->Vals z us->xs=z
 |_,_,_,.nil,.nil=>rfl
 |_,_,_,.cons r t,.cons r' t'=>by rw[r.inj r',Vals.inj t t']
section
variable{X:Cx}{pins:Ω}{σ:St}{H:Hp}{s:Shared}{a:Addr}{xs ys:Ty}
def fJ.of{K:Ψ}(h:H a=some (.lst xs)):fJ K H a xs:=.inl (.inl h)
def dN.of{K:Ψ}(h:H a=some (.tup xs)):dN K H a xs:=.inl (.inl h)
def Inv.list(I:Inv X pins σ H s)(h:fJ X.K H a xs):∃Z:W1,Vals xs Z/\PlainL s.heap a Z.toArray/\xs.length<=sizeLine:=by
 rcases h with h|⟨o,Z,n,b,c,d,f,hz,r⟩
 .obtain⟨z,Z,n,r,e⟩:=h.ok I.hok;exact⟨Z,r,⟨_,n,e,rfl,rfl,rfl⟩,z⟩
 .refine⟨Z.toList,r,⟨o,n,I.lT a o b,c,d,by simpa using f⟩,?_⟩;have e:=r.length;simp only[aaP]at e;lia
def Inv.tuple(I:Inv X pins σ H s)(h:dN X.K H a xs):∃Z:W1,Vals xs Z/\IsTup s.heap a Z.toArray/\xs.length<=sizeLine:=by
 rcases h with h|⟨o,Z,n,b,c,d,hz,r⟩
 .obtain⟨z,Z,r,p⟩:=h.ok I.hok;exact⟨Z,r,p,z⟩
 .refine⟨Z.toList,r,⟨o,I.lT a o b,c,n,by simpa using d⟩,?_⟩;have e:=r.length;simp only[aaP]at e;lia
def Inv.EV(I:Inv X pins σ H s)(h:fJ X.K H a xs)(h':fJ X.K H a ys):xs=ys:=by
 obtain⟨c,r,⟨o,n,e,_,_,d⟩,_⟩:=I.list h;obtain⟨b,i,⟨l,p,f,_,_,g⟩,_⟩:=I.list h';rw[e]at f;exists f;rw[d]at g;injection g with j _
 have:c=b:=by simpa using ZJ Array.toList j
 subst this;exact r.inj i
def Inv.nH(I:Inv X pins σ H s)(h:dN X.K H a xs)(h':dN X.K H a ys):xs=ys:=by
 obtain⟨c,r,⟨o,e,_,n,d⟩,_⟩:=I.tuple h;obtain⟨b,i,⟨l,f,_,p,g⟩,_⟩:=I.tuple h';rw[e]at f;exists f;rw[d]at g;injection g with j _
 have:c=b:=by simpa using ZJ Array.toList j
 subst this;exact r.inj i
end
abbrev Cx.jZ(X:Cx)(E:Φ):Cx:={ X with xe:=E }
abbrev Cx.iR(X:Cx):Cx:=X.jZ λ_ _=>False
theorem Cx.Ok.jZ{X:Cx}(ok:X.Ok)(E:Φ):(X.jZ E).Ok:=
 ⟨ok.mod,ok.kind,ok.glob,ok.blt,ok.above,ok.inj,ok.has,ok.wm,ok.hd,ok.frames,ok.stk,ok.Cu,ok.bs,ok.qW,ok.ql,ok.qm,ok.jm,ok.uJ⟩
def Cx.Ok.gX{X:Cx}(ok:(X.jZ E).Ok):X.Ok:=
 ⟨ok.mod,ok.kind,ok.glob,ok.blt,ok.above,ok.inj,ok.has,ok.wm,ok.hd,ok.frames,ok.stk,ok.Cu,ok.bs,ok.qW,ok.ql,ok.qm,ok.jm,ok.uJ⟩
section
variable{X:Cx}{pins:Ω}{σ:St}{H:Hp}{s:Shared}{E:Φ}
theorem Inv.jZ(I:Inv X pins σ H s)(E:Φ):Inv (X.jZ E) pins σ H s:=⟨I.ok.jZ E,I.os,I.bare,I.base,I.loc,I.cell,I.free,I.gk,I.pin,I.hok,I.len⟩
theorem Inv.gX(I:Inv (X.jZ E) pins σ H s):Inv X pins σ H s:=⟨I.ok.gX,I.os,I.bare,I.base,I.loc,I.cell,I.free,I.gk,I.pin,I.hok,I.len⟩
theorem SP.gX(h:SP (X.jZ E) pins D f s'):SP X pins D f s':=by
 cases f with
 |next=>obtain⟨a,H',I,q⟩:=h;exact⟨a,H',I.gX,q⟩
 |brk=>obtain⟨a,H',I,q⟩:=h;exact⟨a,H',I.gX,q⟩
 |cont=>obtain⟨a,H',I,q⟩:=h;exact⟨a,H',I.gX,q⟩
 |ret u=>obtain⟨v,a,H',I,r,q⟩:=h;exact⟨v,a,H',I.gX,r,q⟩
theorem PT.iR(h:PT X.iR e t):PT X e t:=λpins s σ H Q I hw=>
 ZT (h pins s σ H Q (I.jZ _) hw) (λ_ _ ⟨H',I',q⟩=>⟨H',I'.gX,q⟩) λ_ _ z=>False.elim z
theorem gm.iR{st:List Stmt}(h:gm X.iR st t):gm X st t:=λpins s σ H D I hw=>
 ZT (h pins s σ H D (I.jZ _) hw) (λ_ _ q=>q.gX) λ_ _ z=>False.elim z
end
section
variable{X:Cx}{st:Stmt}{rest:List Stmt}{t u:TS}{e:Expr}{te:TE}{pos:Pos}
def Ri:TS:=λD σ H=>D.nx σ H
def Vx(t u:TS):TS:=λD σ H=>t { D with nx:=u D } σ H
def Ju:gm X [] Ri:=λ_ _ σ H _ I h=>aby ⟨σ,H,I,h⟩
def qq(h1:PS X st t)(h2:gm X rest u):gm X (st :: rest) (Vx t u):=by
 intro a s σ H D I h;refine abo (bI (h1 a s σ H { D with nx:=u D } I h) λf s1 q=>?_);cases f with
 |next=>
  obtain⟨b,H',I',q⟩:=q;exact h2 a s1 b H' D I' q
 |ret v=>exact q
 |brk=>exact q
 |cont=>exact q
def zo(h1:PS X st t):gm X [st] t:=by
 intro a s σ H D I h;refine abo (bI (h1 a s σ H D I h) λf s1 q=>?_);cases f with
 |next=>exact aby q
 |ret v=>exact q
 |brk=>exact q
 |cont=>exact q
def Inv.quiet{pins:Ω}{σ:St}{H:Hp}{s:Shared}(I:Inv X pins σ H s):interactive X.env=false:=by simp[interactive,I.ok.kind]
def Rj(te:TE):TS:=λD σ H=>te σ H λ_ H1=>D.nx σ H1
def zp(z:PE X e te)(Z:swapsWith e none pos.line X.env=pure false:=by rfl):PS X (.Expr e pos) (Rj te):=by
 intro a s σ H D I h;exact wpAny_Expr_any (bI (z a s σ H _ I h) λv s1 ⟨x,H1,I1,c,b⟩=>⟨σ,H1,I1,b⟩) I.quiet Z
def Vy(te:TE):TS:=λD σ H=>te σ H D.rt
def wu(z:PE X e te):PS X (.Return (some e) pos) (Vy te):=by
 intro a s σ H D I h;exact abR (bI (z a s σ H _ I h) λv s1 ⟨x,H1,I1,b,c⟩=>⟨x,σ,H1,I1,b,c⟩)
def Vz(c:TT)(t u:TS):TS:=λD σ H=>c σ H λb H1=>if b=true then t D σ H1 else u D σ H1
def HD(hc:PT X c tc)(z:gm X a t)(Z:gm X b u):PS X (.If c a b pos) (Vz tc t u):=by
 intro f s σ H D I h;refine wpAny_If (bI (hc f s σ H _ I h) λd s1 zr=>?_);obtain⟨H1,I1,g⟩:=zr;cases d with
 |true=>exact z f s1 σ H1 D I1 g
 |false=>exact Z f s1 σ H1 D I1 g
def Ma:TS:=λ_ _ _=>False
def EW:PS X st Ma:=λ_ _ _ _ _ _ h=>h.elim
end
abbrev TG:=V->St->Hp->(St->Hp->Prop)->Prop
abbrev wz:=List V->St->Hp->(St->Hp->Prop)->Prop
def PG(X:Cx)(z:Expr)(t:TG):Prop:=
 ∀(pins:Ω) (s:Shared) (σ:St) (H:Hp) (v:V) (u:Value) (Q:St->Hp->Prop),Inv X pins σ H s->RelV v u->t v σ H Q->
  wpAny (model X.prog X.w) X.A (assign z X.env u) (λ_ a=>∃σ' H',Inv X pins σ' H' a/\Q σ' H') X.xe s
def pX(X:Cx)(z:Kj)(t:wz):Prop:=
 ∀(pins:Ω) (s:Shared) (σ:St) (H:Hp) (vs:Ty) (us:W1) (Q:St->Hp->Prop),Inv X pins σ H s->Vals vs us->t vs σ H Q->
  wpAny (model X.prog X.w) X.A (assignInOrder ((assignEach z X.env).map (·.2)) us) (λ_ a=>∃σ' H',Inv X pins σ' H' a/\Q σ' H') X.xe s
section
variable{X:Cx}{pos:Pos}
def HF(i:Nat):TG:=λv σ H Q=>Q (σ.set i (some v)) H
def zq(z:X.N.Nodup)(hi:X.N[i]?=some x)(Z:Loc X.env.scope x)(hf:X.fn x=true\/X.env.scope.names.lookup x=some .local:=by first|exact .inl rfl|exact .inr rfl|assumption):PG X (.Name x pos) (HF i):=by
 intro a s σ H v u Q I r h;exact wpAny_assign_Name (qp I z hi Z r (λb I'=>⟨_,H,I',h⟩) hf)
def VA:wz:=λvs σ H Q=>vs=[]/\Q σ H
def Rk(t:TG)(u:wz):wz:=λvs σ H Q=>∃v r,vs=v :: r/\t v σ H λσ' H'=>u r σ' H' Q
def Jv:pX X [] VA:=by
 intro a s σ H vs us Q I r h;obtain⟨e,h⟩:=h;subst e;cases r;exact assignInOrder_nil ⟨σ,H,I,h⟩
def EX{e:Expr}{es:Kj}{t:TG}{u:wz}(h1:PG X e t)(h2:pX X es u)(z:(assignEach (e :: es) X.env).map (·.2)=assign e X.env :: (assignEach es X.env).map (·.2):=by rfl):pX X (e :: es) (Rk t u):=by
 intro a s σ H vs us Q I r h;obtain⟨v,d,b,h⟩:=h;subst b;cases r with
 |cons r c=>
  rw[z];refine assignInOrder_cons (bI (h1 a s σ H _ _ _ I r h) λ_ s1 zr=>?_);obtain⟨σ1,H1,I1,q1⟩:=zr;exact h2 a s1 σ1 H1 _ _ Q I1 c q1
def VB(K:Ψ)(n:Nat)(t:wz):TG:=λv σ H Q=>∃a xs,v=.ref a/\dN K H a xs/\xs.length=n/\t xs σ H Q
def Mb{es:Kj}{k:Nat}{t:wz}{n:Nat}(hc:X.calm=true)(h:pX X es t)(Z:(assignEach es X.env).length=n:=by rfl)(z:(assignEach es X.env).findIdx? (·.1)=none:=by rfl):PG X (.Tuple es k pos) (VB X.K n t):=by
 intro c s σ H v u Q I r d;obtain⟨a,xs,f,g,i,d⟩:=d;subst f;cases r;obtain⟨j,rv,l,hz⟩:=I.tuple g;refine assign_Tuple_tuple (I.ok.hd hc) l (by simp[Z,<-i,rv.length]) z λp q=>?_;have I1:Inv X c σ H { s with heap:=p }:=I.kept (t':=s.toks) λb o e=>q b o (ZR (ZI e)) e;exact h c _ σ H xs _ Q I1 (by simpa using rv) d
def VC(z:TE)(g:TG):TS:=λD σ H=>z σ H λx H1=>g x σ H1 D.nx
def Mc(z:X.N.Nodup)(hi:X.N[i]?=some x)(Z:Loc X.env.scope x)(he:PE X e te)(hs:swapsWith e (some (.Name x pos')) pos.line X.env=pure false:=by rfl)(hf:X.fn x=true\/X.env.scope.names.lookup x=some .local:=by first|exact .inl rfl|exact .inr rfl|assumption):
  PS X (.Assign [.Name x pos'] e pos) (VC te (HF i)):=by
 intro a s σ H D I h;refine wpAny_Assign_Name (bI (he a s σ H _ I h) λv s1 zr=>?_) hs;obtain⟨y,H1,I1,b,c⟩:=zr;exact qp I1 z hi Z b (λs2 I2=>⟨_,H1,I2,c⟩) hf
end
section
variable{X:Cx}{pos:Pos}
def Me(c:TT)(tb:TS):TS:=λD σ H=>∃W:Nat->St->Hp->Prop,(∃m,W m σ H)/\∀m σ H,W m σ H->
 c σ H λb H1=>if b=true then ∃N:St->Hp->Prop,(∀σ' H',N σ' H'->∃m',m'<m/\W m' σ' H')/\tb { D with nx:=N,ct:=N,bk:=D.nx } σ H1 else D.nx σ H1
def EY(z:PassesOwn (model X.prog X.w) X.A X.env X.xe)(hc:PT X c tc)(Z:gm X body tb):PS X (.While c body [] pos) (Me tc tb):=by
 intro a s σ H D I h;obtain⟨W,⟨q,r⟩,d⟩:=h;refine wpAny_While (codeAny_whileLoop (λn y=>∃σ' H',Inv X a σ' H' y/\W n σ' H') ?_ q ⟨σ,H,I,r⟩);rintro n s1 ⟨σ1,H1,I1,w1⟩;refine aaF z (bI (hc a s1 σ1 H1 _ I1 (d n σ1 H1 w1)) λb s2 zr=>?_);obtain⟨H2,I2,g⟩:=zr;cases b with
 |true=>
  obtain⟨N,p,g⟩:=g;refine aaF z (bI (Z a s2 σ1 H2 _ I2 g) λf s3 i=>?_);cases f with
  |next=>
   obtain⟨e,H3,I3,n3⟩:=i;obtain⟨j,l,o⟩:=p e H3 n3;exact⟨j,l,e,H3,I3,o⟩
  |cont=>
   obtain⟨e,H3,I3,n3⟩:=i;obtain⟨j,l,o⟩:=p e H3 n3;exact⟨j,l,e,H3,I3,o⟩
  |brk=>exact i
  |ret v=>exact i
 |false=>
  exact aby ⟨σ1,H2,I2,g⟩
end
structure It where
 go:Nat->Hp->Prop
 HG:Nat->Hp->V->Hp->Prop
 stop:Nat->Hp->Prop
def gS(X:Cx)(pins:Ω)(H:Hp)(b:Addr):Prop:=
 H b=none/\b≠X.env.locals/\b∉X.fs/\(b∈X.ex\/X.s₀.heap.objs.size<=b)/\(∀x c,X.env.cells.lookup x=some c->c≠b)/\∀p∈X.pn++pins,p.1≠b
def Inv.A3{X:Cx}{pins:Ω}{σ:St}{H H':Hp}{s:Shared}{b:Addr}(I:Inv X pins σ H s)(Z:s.heap.objs.size<=b)(hn:H' b=none):gS X pins H' b:=by
 refine⟨hn,acI (Uv I.lt Z),I.Vs Z,.inr (ZL I.sz Z),λx c e z=>?_,λp a z=>?_⟩
 .obtain⟨v,q⟩:=I.cell x c e;exact absurd (Uv q.lt (by rw[z];exact Z)) (aat _)
 .exact absurd (Uv (ZI (I.pin p a).1) (by rw[z];exact Z)) (aat _)
structure Turn(P:Program)(w:World)(K:Ψ)(tg:Expr)(J:It)(fp:Y2)(it:Addr)(tn:Nat->Heap->Prop):Prop where
 mem:it∈fp
 obj:∀i h,tn i h->∀b∈fp,∃o,h.get? b=some o/\∀v,o.data≠.cell v
 keep:∀i h h',tn i h->(∀b∈fp,∀o,h.get? b=some o->h'.get? b=some o)->tn i h'
 item:∀(X:Cx),X.prog=P->X.w=w->X.K=K->X.calm=true->∀(i:Nat) (pins:Ω) (s:Shared) (σ:St) (H:Hp) (E:Φ),Inv X pins σ H s->(∀b∈fp,gS X pins H b)->tn i s.heap->J.go i H->
  wpAny (model P w) X.A (pyNext (.ref it)) (λr s1=>∃u,r=some u/\
   wpAny (model P w) X.A (letOwnedTupleGo tg (.ref it) u) (λ_ s2=>∃x H',Inv X pins σ H' s2/\RelV x u/\J.HG i H x H'/\tn (i+1) s2.heap/\∀b∈fp,H' b=none) E s1) E s
 done:∀(X:Cx),X.prog=P->X.w=w->X.K=K->X.calm=true->∀(i:Nat) (pins:Ω) (s:Shared) (σ:St) (H:Hp) (E:Φ),Inv X pins σ H s->(∀b∈fp,gS X pins H b)->tn i s.heap->J.stop i H->
  wpAny (model P w) X.A (pyNext (.ref it)) (λr s1=>r=none/\Inv X pins σ H s1) E s
 self:∀(A:Around) (i:Nat) (s:Shared) (Q:Φ) (E:Φ),tn i s.heap->Q (.ref it) s->wpAny (model P w) A (pyIter (.ref it)) Q E s
abbrev TI:=St->Hp->(It->Hp->Prop)->Prop
def S9(X:Cx)(pins:Ω)(σ:St)(tg:Expr)(R:It->Hp->Prop)(itv:Value)(s2:Shared):Prop:=
 ∃(it:Addr) (fp:Y2) (tn:Nat->Heap->Prop) (J:It) (H':Hp),itv=.ref it/\Inv X pins σ H' s2/\Turn X.prog X.w X.K tg J fp it tn/\tn 0 s2.heap/\(∀b∈fp,gS X pins H' b)/\R J H'
def PI(X:Cx)(tg z:Expr)(I:TI):Prop:=
 ∀(pins:Ω) (s:Shared) (σ:St) (H:Hp) (R:It->Hp->Prop),Inv X pins σ H s->I σ H R->
  wpAny (model X.prog X.w) X.A (eval z X.env) (λv s1=>wpAny (model X.prog X.w) X.A (pyIter v) (S9 X pins σ tg R) X.xe s1) X.xe s
def A4(I:s.heap.get? it=some o)(hc:o.cls=.type n)(hd:o.data=.fields vs)(Z:["enumerate","zip","dict_itemiterator","dict_reverseitemiterator","odict_iterator","itertools.zip_longest","itertools.pairwise"].contains n=false)(z:Q () s):wpAny M A (letOwnedTupleGo tg (.ref it) u) Q E s:=by
  cases tg<;>first
    |exact Ws z
    | (cases u<;>first
        |exact Ws z
        | (refine gH (wpAny_load I ?_)
           rw[hc,hd];show wpAny M A (if (["enumerate","zip","dict_itemiterator","dict_reverseitemiterator","odict_iterator","itertools.zip_longest","itertools.pairwise"].contains n&&vs[0]?==some (rawInt _))=true then _ else _) Q E s;rw[Yl (by intro h;rw[Z,Bool.false_and]at h;exists h)];exact Ws z))
def Tc(K:Ψ)(a:Addr):It:=
 ⟨λi H=>∃xs x,fJ K H a xs/\xs[i]?=some x,λi H x H'=>H'=H/\∀xs,fJ K H a xs->xs[i]?=some x,λi H=>∃xs,fJ K H a xs/\xs.length<=i⟩
def Td(K:Ψ)(a:Addr):It:=
 ⟨λi H=>∃xs x,dN K H a xs/\xs[i]?=some x,λi H x H'=>H'=H/\∀xs,dN K H a xs->xs[i]?=some x,λi H=>∃xs,dN K H a xs/\xs.length<=i⟩
def HH(lo:Int)(n:Nat):It:=⟨λi _=>i<n,λi H x H'=>H'=H/\x=.int (lo+i),λi _=>n<=i⟩
def Cy{K:Ψ}(a it:Addr):Turn P w K tg (Tc K a) [it] it (λi h=>h.IsListIter it a i) where
 mem:=by simp
 obj:=λi h f b j=>by
  have e:b=it:=by simpa using j
  subst e;obtain⟨o,e,c,d⟩:=f;exact⟨o,e,λv z=>by rw[d]at z;exists z⟩
 keep:=λi h q f k=>f.at λo e=>k it (by simp) o e
 item:=by
  intro X y A B G i g s σ H E I hf f hg;subst y A B;obtain⟨xs,x,r,C⟩:=hg;obtain⟨F,rv,p,hz⟩:=I.list r;obtain⟨u,J,L⟩:=rv.get C;obtain⟨f0,f1,f2,f3,f4,f5⟩:=hf it (by simp);refine wpAny_pyNext_list_item f p.isList (x:=u) (by simpa using J) λq l M=>?_;have I1:Inv X g σ H { s with heap:=q }:=I.turned (t':=s.toks) (λb o j e=>(M.2 b j).trans e) f0 f1 f3 f4 f5;obtain⟨o,e,c,d⟩:=id l;exact⟨u,rfl,A4 (s:={ s with heap:=q }) e c d (by decide) ⟨x,H,I1,L,⟨rfl,λY N=>by rw[I.EV N r];exact C⟩,l,λb j=>(hf b j).1⟩⟩
 done:=by
  intro X y A B G i g s σ H E I hf f hg;subst y A B;obtain⟨xs,r,C⟩:=hg;obtain⟨F,rv,p,hz⟩:=I.list r;obtain⟨f0,f1,f2,f3,f4,f5⟩:=hf it (by simp);have Z:=rv.length;exact wpAny_pyNext_list_end (I.ok.hd G) f p.isList (by simp;lia) λq Q=>⟨rfl,I.turned (t':=s.toks) (λb o j e=>Q b o j e) f0 f1 f3 f4 f5⟩
 self:=λ_ _ _ _ _ f h=>wpAny_pyIter_listiter f h
def A5{K:Ψ}(a it:Addr):Turn P w K tg (Td K a) [it] it (λi h=>h.IsTupleIter it a i) where
 mem:=by simp
 obj:=λi h f b g=>by
  have e:b=it:=by simpa using g
  subst e;obtain⟨o,e,c,d⟩:=f;exact⟨o,e,λv z=>by rw[d]at z;exists z⟩
 keep:=λi h F f k=>f.at λo e=>k it (by simp) o e
 item:=by
  intro X y A B G i l s σ H E I hf f hg;subst y A B;obtain⟨xs,x,r,C⟩:=hg;obtain⟨j,rv,p,hz⟩:=I.tuple r;obtain⟨u,J,L⟩:=rv.get C;obtain⟨f0,f1,f2,f3,f4,f5⟩:=hf it (by simp);refine wpAny_pyNext_tuple_item f (show s.heap.IsTuple a j.toArray from p) (by simpa using J) λF q M=>?_;have I1:=I.turned (t':=s.toks) (λb o g e=>(M.2 b g).trans e) f0 f1 f3 f4 f5;obtain⟨o,e,c,d⟩:=id q;exact⟨u,rfl,A4 e c d (by decide) ⟨x,H,I1,L,⟨rfl,λY N=>by rw[I.nH N r];exact C⟩,q,λb g=>(hf b g).1⟩⟩
 done:=by
  intro X y A B G i l s σ H E I hf f hg;subst y A B;obtain⟨xs,r,C⟩:=hg;obtain⟨j,rv,p,hz⟩:=I.tuple r;obtain⟨f0,f1,f2,f3,f4,f5⟩:=hf it (by simp);have Z:=rv.length;exact wpAny_pyNext_tuple_end (I.ok.hd G) f (show s.heap.IsTuple a j.toArray from p) (by simp;lia) λF Q=>⟨rfl,I.turned (t':=s.toks) (λb o g e=>Q b o g e) f0 f1 f3 f4 f5⟩
 self:=λ_ _ _ _ _ f h=>wpAny_pyIter_tupleiter f h
def A6{K:Ψ}(it:Addr)(lo:Int)(n:Nat):Turn P w K tg (HH lo n) [it] it (λi h=>IsRangeIter h it (lo+(i:Nat)*1) ((n:Int) - (i:Nat)) 1) where
 mem:=by simp
 obj:=λi h a b d=>by
  have e:b=it:=by simpa using d
  subst e;exact⟨_,a,λv z=>by
   have r:=z
   exists r⟩
 keep:=λi h g a k=>k it (by simp) _ a
 item:=by
  intro X l p q j i c s σ H E I hf a hg;subst l p q;obtain⟨f0,f1,f2,f3,f4,f5⟩:=hf it (by simp);have W:=Walks.range (prog:=X.prog) (w:=X.w) (I.ok.hd j) it lo 1 n;refine W.item i s _ _ hg a λv g tk y f A=>?_;obtain⟨t,rfl⟩:=y;have I1:Inv X c σ H { s with heap:=g,toks:=tk }:=I.turned (λb o d e=>A b o (by simpa using d) e) f0 f1 f3 f4 f5;refine⟨_,rfl,A4 f rfl rfl (by decide) ⟨.int (lo+i),H,I1,⟨t,?_⟩,⟨rfl,rfl⟩,f,λb d=>(hf b d).1⟩⟩;rw[Int.mul_one]
 done:=by
  intro X l p q j i c s σ H E I hf a hg;obtain⟨f0,f1,f2,f3,f4,f5⟩:=hf it (by simp);exact wpAny_pyNext_range_end (I.ok.hd j) a (by have:n<=i:=hg;lia) λg B=>⟨rfl,I.turned (t':=s.toks) (λb o d e=>B b o d e) f0 f1 f3 f4 f5⟩
 self:=λ_ _ _ _ _ a h=>wpAny_pyIter_rangeiter a h
section
variable{X:Cx}{tg:Expr}
def EZ{pins:Ω}{σ:St}{H:Hp}{s:Shared}{R:It->Hp->Prop}{E:Φ}{lo hi:Int}{t u v:Tok}{tk:Nat}(I:Inv X pins σ H s)(h1:-(2 ^ 62)<=lo)(h2:lo<2 ^ 62)(z:-(2 ^ 62)<=hi)(Z:hi<2 ^ 62)(q:R (HH lo (hi - lo).toNat) H):wpAny (model X.prog X.w) X.A (pyIter (.ref s.heap.objs.size)) (S9 X pins σ tg R) E { s with heap:=s.heap.push { cls:=.type "range",data:=.fields #[.int lo t,.int hi u,.int 1 v]},toks:=tk }:=by
 refine wpAny_pyIter_range (IsRange.new ..) (small_one h1 h2 z Z) ?_;have I1:Inv X pins σ H { s with heap:=s.heap.push { cls:=.type "range",data:=.fields #[.int lo t,.int hi u,.int 1 v]},toks:=tk }:=I.kept λb o e=>ZD _ e;refine⟨(s.heap.push { cls:=.type "range",data:=.fields #[.int lo t,.int hi u,.int 1 v]}).objs.size,[(s.heap.push { cls:=.type "range",data:=.fields #[.int lo t,.int hi u,.int 1 v]}).objs.size],_,_,H,rfl,
  I1.kept (t':=tk) λb o e=>ZD _ e,A6 _ lo (hi - lo).toNat,?_,λb a=>?_,q⟩
 .have c:lo+((0:Nat):Int)*1=lo:=by simp
  have d:(((hi - lo).toNat:Nat):Int) - ((0:Nat):Int)=Builtin.Range.rangeSize lo hi 1:=by rw[rangeSize_one];split<;>lia
  show IsRangeIter _ _ (lo+((0:Nat):Int)*1) ((((hi - lo).toNat:Nat):Int) - ((0:Nat):Int)) 1;rw[c,d];exact ZM _ rfl
 .have e:b=(s.heap.push { cls:=.type "range",data:=.fields #[.int lo t,.int hi u,.int 1 v]}).objs.size:=by simpa using a
  subst e;exact I1.A3 (Zw _) (I1.hok.fresh (Zw _))
def Rl(z:TA):TI:=λσ H R=>z σ H λa H1=>∃j:Int,a=[.int j]/\-(2 ^ 62)<=j/\j<2 ^ 62/\R (HH 0 j.toNat) H1
def Cz(z:Gl X "range")(Z:X.mg "range" = none)(ha:PA X [a] ta)(hs:starEach [a] X.env=[(false,eval a X.env)]:=by rfl):PI X tg (.Call (.Name "range" p) [a] [] pos) (Rl ta):=by
 intro b s σ H R I h;refine Call_ (jN I z Z boot_range (aaE (bI (ha pos b s σ H _ I h) λi s1 zr=>?_) hs rfl));obtain⟨l,H1,I1,d,c⟩:=zr;obtain⟨j,e,c,f,q⟩:=c;subst e;cases d with
 |cons r g=>
  cases g;obtain⟨t,rfl⟩:=r;exact call_range_1 (EZ I1 (by lia) (by lia) c f (by simpa using q))
def VD(z:TI)(g:TG)(tb:TS):TS:=λD σ H=>z σ H λJ H1=>∃W:Nat->Nat->St->Hp->Prop,(∃m,W 0 m σ H1)/\∀i m σ H,W i m σ H->
 (J.stop i H/\D.nx σ H)\/(J.go i H/\∃N:St->Hp->Prop,(∀σ' H',N σ' H'->∃m',m'<m/\W (i+1) m' σ' H')/\∀x H',J.HG i H x H'->g x σ H' λσ2 H2=>tb { D with nx:=N,ct:=N,bk:=D.nx } σ2 H2)
def nI(fp:Y2)(h:Heap):Ω:=fp.filterMap λb=>(h.get? b).map λo=>(b,o)
def j7(z:b∈fp)(e:h.get? b=some o):(b,o)∈nI fp h:=List.mem_filterMap.mpr ⟨b,z,by rw[e];rfl⟩
def CA(z:p∈nI fp h):p.1∈fp/\h.get? p.1=some p.2:=by
 obtain⟨b,a,e⟩:=List.mem_filterMap.mp z;cases q:h.get? b with
 |none=>rw[q]at e;exists e
 |some o=>
  rw[q]at e;have c:=ZP e;subst c;exact⟨a,q⟩
def Inv.pinned{pins:Ω}{σ:St}{H:Hp}{s:Shared}{fp:Y2}(I:Inv X pins σ H s)(Z:∀b∈fp,gS X pins H b)(ho:∀b∈fp,∃o,s.heap.get? b=some o/\∀v,o.data≠.cell v):Inv X (pins++nI fp s.heap) σ H s:=
 I.zl λp f=>(kS f).elim (λz=>I.pin p (Z3 _ z)) λz=>by
  obtain⟨a,e⟩:=CA z;obtain⟨f0,f1,f2,_⟩:=Z p.1 a;obtain⟨o,c,d⟩:=ho p.1 a;rw[e]at c;exists c;exact⟨e,f0,f1,f2,d⟩
def Inv.mL{pins z:Ω}{σ:St}{H:Hp}{s:Shared}(I:Inv X (pins++z) σ H s):Inv X pins σ H s:=I.zl λp a=>I.pin p (Z3 _ (acv _ a))
def Mf(hp:PassesOwn (model X.prog X.w) X.A X.env X.xe)(hc:X.calm=true)(hi:PI X tg iter wi)(hg:PG X tg g)(hb:gm X body tb)(hs:∀x,foldedSetIterable iter X.env x=pure x:=by intro _;rfl):PS X (.For tg iter body [] pos) (VD wi g tb):=by
 intro a s σ H D I h;refine wpAny_For (bI (hi a s σ H _ I h) λv s1 L=>bI L λitv s2 M=>?_) hs;obtain⟨it,p,G,J,H2,e,I2,T,z,f2,W,⟨P,Q⟩,q⟩:=M;subst e;have B:∀{H':Hp},(∀b∈p,H' b=none)->∀b∈p,gS X a H' b:=λY b hb=>⟨Y b hb,(f2 b hb).2⟩
 refine codeAny_forLoop_any (λn K=>∃i σ' H',Inv X a σ' H' K/\G i K.heap/\(∀b∈p,H' b=none)/\W i n σ' H') ?_ P ⟨0,σ,H2,I2,z,λb hb=>(f2 b hb).1,Q⟩;rintro n s3 ⟨i,σ3,H3,I3,st3,bB,w3⟩;rcases q i n σ3 H3 w3 with ⟨y,Z⟩|⟨go,N,hN,step⟩
 .refine aaF hp (bI (T.done X rfl rfl rfl hc i a s3 σ3 H3 X.xe I3 (B bB) st3 y) λr s4 zr=>?_);obtain⟨C,I4⟩:=zr;subst C;exact aby ⟨σ3,H3,I4,Z⟩
 .refine aaF hp (bI (T.item X rfl rfl rfl hc i a s3 σ3 H3 X.xe I3 (B bB) st3 go) λr s4 zr=>?_);obtain⟨u,C,h4⟩:=zr;subst C;refine aaF hp (bI h4 λ_ s5 zr=>?_);obtain⟨x,H5,I5,r5,y5,F,nJ⟩:=zr;have Mg:=I5.pinned (B nJ) (T.obj _ _ F);refine aaF hp (bI (hg _ s5 σ3 H5 x u _ Mg r5 (step x H5 y5)) λ_ s6 zr=>?_);obtain⟨WQ,H6,I6,q6⟩:=zr;refine aaF hp (bI (hb _ s6 WQ H6 _ I6 q6) λf s7 l=>?_);have c:∀{j:St} {H7:Hp},Inv X (a++nI p s5.heap) j H7 s7->N j H7->∃m,m<n/\∃i σ' H',Inv X a σ' H' s7/\G i s7.heap/\(∀b∈p,H' b=none)/\W i m σ' H':=λ{j H7} I7 n7=>by
   obtain⟨m',hm,w7⟩:=hN j H7 n7;refine⟨m',hm,i+1,j,H7,I7.mL,T.keep _ _ _ F λb hb o e=>(I7.pin (b,o) (Z3 _ (Z3 _ (j7 hb e)))).1,λb hb=>?_,w7⟩;obtain⟨o,e,d⟩:=T.obj _ _ F b hb;exact(I7.pin (b,o) (Z3 _ (Z3 _ (j7 hb e)))).2.1
  cases f with
  |next=>obtain⟨j,H7,I7,n7⟩:=l;exact c I7 n7
  |cont=>obtain⟨j,H7,I7,n7⟩:=l;exact c I7 n7
  |brk=>obtain⟨j,H7,I7,l⟩:=l;exact⟨j,H7,I7.mL,l⟩
  |ret v=>obtain⟨x7,j,H7,I7,r7,l⟩:=l;exact⟨x7,j,H7,I7.mL,r7,l⟩
end
abbrev R2:=V->V->Hp->VK->Prop
def dJ(X:Cx)(f:Value->Value->Sem Value)(r:R2):Prop:=
 ∀(pins:Ω) (s:Shared) (σ:St) (H:Hp) (x y:V) (v u:Value) (Q:VK),Inv X pins σ H s->RelV x v->RelV y u->r x y H Q->
  wpAny (model X.prog X.w) X.A (f v u) (EP X pins σ Q) X.xe s
def Mh(X:Cx)(f:Value->Sem Value)(r:V->Hp->VK->Prop):Prop:=
 ∀(pins:Ω) (s:Shared) (σ:St) (H:Hp) (x:V) (v:Value) (Q:VK),Inv X pins σ H s->RelV x v->r x H Q->
  wpAny (model X.prog X.w) X.A (f v) (EP X pins σ Q) X.xe s
def gn(X:Cx)(f:Value)(r:List V->Hp->VK->Prop):Prop:=
 ∀(pins:Ω) (s:Shared) (σ:St) (H:Hp) (xs:Ty) (us:W1) (Q:VK),Inv X pins σ H s->Vals xs us->r xs H Q->
  wpAny (model X.prog X.w) X.A (call f us) (EP X pins σ Q) X.xe s
def VE(X:Cx)(r:V->Hp->(Bool->Hp->Prop)->Prop):Prop:=
 ∀(pins:Ω) (s:Shared) (σ:St) (H:Hp) (x:V) (v:Value) (Q:Bool->Hp->Prop),Inv X pins σ H s->RelV x v->r x H Q->
  wpAny (model X.prog X.w) X.A (truthy v) (TP X pins σ Q) X.xe s
def CB(r:R2)(z tb:TE):TE:=λσ H Q=>z σ H λx H1=>tb σ H1 λy H2=>r x y H2 Q
def WR(r:V->Hp->VK->Prop)(z:TE):TE:=λσ H Q=>z σ H λx H1=>r x H1 Q
def rI(C:Int->Int->Prop)(g:Int->Int->V):R2:=λx y H Q=>∃i j,x=.int i/\y=.int j/\C i j/\Q (g i j) H
def wA(g:Int->Int->V):R2:=λx y H Q=>∃i j,x=.int i/\y=.int j/\Q (g i j) H
def rU(g:Int->V):V->Hp->VK->Prop:=λx H Q=>∃i,x=.int i/\Q (g i) H
section
variable{X:Cx}{a b:Expr}{ta tb:TE}{pos:Pos}
def E2(Z:PE X a ta)(hb:PE X b tb){pins:Ω}{s:Shared}{σ:St}{H:Hp}{R:V->V->Hp->Prop}(I:Inv X pins σ H s)(h:ta σ H λx z=>tb σ z λy H2=>R x y H2){Q:Φ}{f:Value->Value->Sem Value}(hf:∀v u s2 x y H2,Inv X pins σ H2 s2->RelV x v->RelV y u->R x y H2->wpAny (model X.prog X.w) X.A (f v u) Q X.xe s2):
  wpAny (model X.prog X.w) X.A (eval a X.env) (λv s₁=>wpAny (model X.prog X.w) X.A (eval b X.env) (λu s₂=>wpAny (model X.prog X.w) X.A (f v u) Q X.xe s₂) X.xe s₁) X.xe s:=by
 refine bI (Z pins s σ H _ I h) λv s1 zr=>?_;obtain⟨x,z,I1,c,d⟩:=zr;refine bI (hb pins s1 σ z _ I1 d) λu s2 zr=>?_;obtain⟨y,H2,I2,e,g⟩:=zr;exact hf v u s2 x y H2 I2 c e g
def Rm(z:dJ X (binaryOp op) r)(Z:PE X a ta)(hb:PE X b tb):PE X (.BinOp a op b pos) (CB r ta tb):=by
 intro c s σ H Q I h;exact wpAny_BinOp (E2 Z hb I h λv u s2 x y H2 I2 d e q=>z c s2 σ H2 x y v u Q I2 d e q)
def Rn(z:Mh X (unaryOp op) r)(Z:PE X a ta):PE X (.UnaryOp op a pos) (WR r ta):=by
 intro c s σ H Q I h;exact UnaryOp_ (bI (Z c s σ H _ I h) λv s1 ⟨x,H1,I1,d,e⟩=>z c s1 σ H1 x v Q I1 d e)
def Mi{g:Int->Int->Int}(z:∀(i j:Int) (t u:Tok) (s:Shared) (Q:Φ) (E:Φ),C i j->Q (.int (g i j) s.toks) { s with toks:=s.toks+1 }->wpAny (model X.prog X.w) X.A (f (.int i t) (.int j u)) Q E s):
  dJ X f (rI C λi j=>.int (g i j)):=by
 intro c s σ H x y v u Q I rx ry h;obtain⟨i,j,rfl,rfl,d,q⟩:=h;obtain⟨t,rfl⟩:=rx;obtain⟨e,rfl⟩:=ry;exact z i j t e s _ _ d ⟨.int (g i j),H,I.tok _,⟨_,rfl⟩,q⟩
def Mj{g:Int->Int->Int}(z:∀(i j:Int) (t u:Tok) (s:Shared) (Q:Φ) (E:Φ),Q (.int (g i j) s.toks) { s with toks:=s.toks+1 }->wpAny (model X.prog X.w) X.A (f (.int i t) (.int j u)) Q E s):
  dJ X f (wA λi j=>.int (g i j)):=by
 intro c s σ H x y v u Q I rx ry h;obtain⟨i,j,rfl,rfl,q⟩:=h;obtain⟨t,rfl⟩:=rx;obtain⟨d,rfl⟩:=ry;exact z i j t d s _ _ ⟨.int (g i j),H,I.tok _,⟨_,rfl⟩,q⟩
def Mk{g:Int->Int->Bool}(z:∀(i j:Int) (t u:Tok) (s:Shared) (Q:Φ) (E:Φ),Q (.bool (g i j)) s->wpAny (model X.prog X.w) X.A (f (.int i t) (.int j u)) Q E s):
  dJ X f (wA λi j=>.bl (g i j)):=by
 intro c s σ H x y v u Q I rx ry h;obtain⟨i,j,rfl,rfl,q⟩:=h;obtain⟨t,rfl⟩:=rx;obtain⟨d,rfl⟩:=ry;exact z i j t d s _ _ ⟨.bl (g i j),H,I,rfl,q⟩
def VF(i j:Int):Prop:=0<j/\j<1073741824
def E3(i j:Int):Prop:=(-(2 ^ 64)<i/\i<2 ^ 64)\/(-(2 ^ 64)<j/\j<2 ^ 64)
def E3.ok(h:E3 i j):IntMulOk i j:=by
 rcases h with ⟨c,d⟩|⟨c,d⟩
 .exact .of_left (intBits_le_64 c d)
 .exact .of_right (intBits_le_64 c d)
def Ml:dJ X (binaryOp .Add) (wA λi j=>.int (i+j)):=Mj λ_ _ _ _ _ _ _ q=>add_int q
def Mm:dJ X (binaryOp .Sub) (wA λi j=>.int (i - j)):=Mj λ_ _ _ _ _ _ _ q=>sub_int q
def Mn:dJ X (binaryOp .Mult) (rI E3 λi j=>.int (i*j)):=Mi λ_ _ _ _ _ _ _ c q=>mul_int q c.ok
def Jw:dJ X (binaryOp .FloorDiv) (rI VF λi j=>.int (i / j)):=Mi λi j _ _ _ _ _ c q=>by
 have d:=c.1;have e:=c.2;exact floordiv_int (by lia) (by rw[Int.fdiv_eq_ediv_of_nonneg i (by lia)];exact q) (.inl (PyProof.noPylong_small (by lia)))
def Mp:dJ X (binaryOp .Mod) (rI (λ_ j=>0<j) λi j=>.int (i % j)):=Mi λi j _ _ _ _ _ c q=>by
 have d:(0:Int)<j:=c;exact mod_int' (by lia) (by rw[Int.fmod_eq_emod_of_nonneg i (by lia)];exact q)
def WS{g:Int->Int}(z:∀(i:Int) (t:Tok) (s:Shared) (Q:Φ) (E:Φ),Q (.int (g i) s.toks) { s with toks:=s.toks+1 }->wpAny (model X.prog X.w) X.A (f (.int i t)) Q E s):
  Mh X f (rU λi=>.int (g i)):=by
 intro c s σ H x v Q I rx h;obtain⟨i,rfl,q⟩:=h;obtain⟨t,rfl⟩:=rx;exact z i t s _ _ ⟨.int (g i),H,I.tok _,⟨_,rfl⟩,q⟩
def Mq:Mh X (unaryOp .USub) (rU λi=>.int (-i)):=WS λ_ _ _ _ _ q=>neg_int q
end
section
variable{X:Cx}{a b c:Expr}{ta tb:TE}{pos:Pos}
def CC{pins:Ω}{σ:St}{H:Hp}{s:Shared}{Q:VK}{k z:Bool}(I:Inv X pins σ H s)(q:Q (.bl k) H)(e:k=z):EP X pins σ Q (.bool z) s:=by
 subst e;exact⟨.bl k,H,I,rfl,q⟩
def Rp:dJ X (compareOp .Lt) (wA λi j=>.bl (decide (i<j))):=Mk λ_ _ _ _ _ _ _ q=>lt_int q
def Rq:dJ X (compareOp .Gt) (wA λi j=>.bl (decide (j<i))):=Mk λ_ _ _ _ _ _ _ q=>gt_int q
def Mr:dJ X (compareOp .Is) (λx y H Q=>y=.aU/\Q (.bl (decide (x=.aU))) H):=by
 intro d s σ H x y v u Q I rx ry h;obtain⟨rfl,q⟩:=h;cases ry;refine is_none_gen (CC I q ?_);cases x<;>first
  | (cases rx;rfl)
  | (obtain⟨t,rfl⟩:=rx;rfl)
def Jx:dJ X (compareOp .IsNot) (λx y H Q=>y=.aU/\Q (.bl (!decide (x=.aU))) H):=by
 intro d s σ H x y v u Q I rx ry h;obtain⟨rfl,q⟩:=h;cases ry;refine isnot_none_gen (CC I q ?_);cases x<;>first
  | (cases rx;rfl)
  | (obtain⟨t,rfl⟩:=rx;rfl)
def gY(b:Expr)(h:op≠.In:=by decide)(h2:op≠.NotIn:=by decide):behindInMarks op b=false:=by
 have d:(op==CmpOp.In)=false:=by cases op<;>first|rfl|exact absurd rfl h
 have e:(op==CmpOp.NotIn)=false:=by cases op<;>first|rfl|exact absurd rfl h2
 cases b<;>simp[behindInMarks,d,e]
def Jy(z:dJ X (compareOp op) r)(Z:PE X a ta)(hb:PE X b tb)(hm:behindInMarks op b=false):PE X (.Compare a [op] [b] pos) (CB r ta tb):=by
 intro d s σ H Q I h;exact wpAny_Compare1 (E2 Z hb I h λv u s2 x y H2 I2 e f q=>z d s2 σ H2 x y v u Q I2 e f q) hm
def Rt(t:TE):TT:=λσ H Q=>t σ H λx H'=>∃k,x=.bl k/\Q k H'
def Jz(Z:dJ X (compareOp op) r)(ha:PE X a ta)(hb:PE X b tb)(hm:behindInMarks op b=false):PT X (.Compare a [op] [b] pos) (Rt (CB r ta tb)):=by
 intro d s σ H Q I h;refine wpAny_isTrue_Compare1 (bI (ha d s σ H _ I h) λv s1 ⟨x,H1,I1,f,g⟩=>bI (hb d s1 σ H1 _ I1 g) λu s2 ⟨y,H2,I2,i,j⟩=>
  bI (Z d s2 σ H2 x y v u _ I2 f i j) λc s3 ⟨z,H3,I3,l,k,e,o⟩=>?_) hm
 subst e;cases l;exact aaK ⟨H3,I3,o⟩
def E4(K:Ψ)(x:V)(H:Hp)(k:Bool):Prop:=
 match x with
 |.aU=>k=false
 |.bl b=>k=b
 |.int i=>k=(i != 0)
 |.str y=>y.length<=sizeLine/\k=((y.length:Int) != 0)
 |.Cr y=>y.size<=sizeLine/\k=((y.size:Int) != 0)
 |.ref p=>(∃xs,fJ K H p xs/\k = !xs.isEmpty)\/(∃xs,dN K H p xs/\k = !xs.isEmpty)\/∃kvs,H p=some (.dK kvs)/\k = !kvs.isEmpty
 |_=>False
def A7{κ:Type}{kvs:List (κ×V)}{vs:List (κ×Value)}(r:KV kvs vs):(!vs.isEmpty) = !kvs.isEmpty:=by
 cases r<;>rfl
def qY(r:Vals xs z):(!z.toArray.isEmpty) = !xs.isEmpty:=by
 cases r<;>simp
def nL:(sizeLine:Nat)<2 ^ 63:=by decide
def Ms:VE X (λx H Q=>∃k,E4 X.K x H k/\Q k H):=by
 intro z s σ H x v Q I rx h;obtain⟨k,e,q⟩:=h;have A:=aaW;cases x with
 |aU=>
  cases rx;have d:=e;subst d;exact truthy_none ⟨H,I,q⟩
 |bl b=>
  cases rx;have d:=e;subst d;exact aaK ⟨H,I,q⟩
 |int i=>
  obtain⟨t,rfl⟩:=rx;have d:=e;subst d;exact PySem.P.truthy_int ⟨H,I,q⟩
 |str y=>
  obtain⟨t,rfl⟩:=rx;obtain⟨hy,d⟩:y.length<=sizeLine/\k=((y.length:Int) != 0):=e;subst d;exact PySem.P.truthy_str (by lia) ⟨H,I.tok _,q⟩
 |Cr y=>
  obtain⟨t,rfl⟩:=rx;obtain⟨hy,d⟩:y.size<=sizeLine/\k=((y.size:Int) != 0):=e;subst d;exact W.truthy_bytes (by lia) ⟨H,I.tok _,q⟩
 |ref p=>
  cases rx;have d:(∃xs,fJ X.K H p xs/\k = !xs.isEmpty)\/(∃xs,dN X.K H p xs/\k = !xs.isEmpty)\/∃f,H p=some (.dK f)/\k = !f.isEmpty:=e;rcases d with ⟨xs,j,d⟩|⟨xs,j,d⟩|⟨f,j,d⟩
  .subst d;obtain⟨l,r,o,hz⟩:=I.list j;have g:=r.length;exact wpAny_truthy_list o.isList (by simp only[ZC];lia) ⟨H,I.tok _,by rw[qY r];exact q⟩
  .subst d;obtain⟨l,r,o,hz⟩:=I.tuple j;have g:=r.length;exact truthy_tuple o (by simp only[ZC];lia) ⟨H,I.tok _,by rw[qY r];exact q⟩
  .subst d;obtain⟨hz,hS,vs,r,m⟩:f.length<=sizeLine/\(p==sysModules)=false/\∃vs,KV f vs/\s.heap.DictOf (bq X.prog X.w) p vs:=I.hok p _ j;have g:f.length=vs.length:=abM r;exact wpAny_truthy_dict hS m (by lia) ⟨H,I.tok _,by rw[A7 r];exact q⟩
 |_=>exact(show False from e).elim
def E5(z:PE X a ta)(Z:∀whole,isTrue a X.env whole=(do let v <-whole;standAt a.pos;holding [v] (truthy v))):
  PT X a (λσ H Q=>ta σ H λx H'=>∃k,E4 X.K x H' k/\Q k H'):=by
 intro d s σ H Q I h;exact isTrue_plain (bI (z d s σ H _ I h) λv s1 ⟨x,H1,I1,e,f⟩=>Ms d s1 σ H1 x v Q I1 e f) (Z _)
def A8:dJ X (binaryOp .Add) (λx y H Q=>∃i j,x=.str i/\y=.str j/\i.length+j.length<=sizeLine/\Q (.str (i++j)) H):=by
 intro d s σ H x y v u Q I rx ry h;obtain⟨i,j,rfl,rfl,hz,q⟩:=h;obtain⟨t,rfl⟩:=rx;obtain⟨e,rfl⟩:=ry;exact add_str (λe tk=>⟨.str (i++j),H,I.tok _,⟨_,rfl⟩,q⟩) hz
def vals1(r:Vals [x] us):∃u,us=[u]/\RelV x u:=by
 cases r with
 |cons d e=>cases e;exact⟨_,rfl,d⟩
def vals2(r:Vals [x,y] us):∃u w',us=[u,w']/\RelV x u/\RelV y w':=by
 cases r with
 |cons d e=>
  cases e with
  |cons f g=>cases g;exact⟨_,_,rfl,d,f⟩
def CD(hc:X.calm=true):gn X (.builtin "min") (λxs H Q=>∃i j,xs=[.int i,.int j]/\Q (.int (if j<i then j else i)) H):=by
 intro e s σ H xs us Q I r h;obtain⟨i,j,rfl,q⟩:=h;obtain⟨u,f,rfl,⟨t,rfl⟩,⟨g,rfl⟩⟩:=vals2 r;refine min_two_ints (I.ok.hd hc) λl tk k=>⟨_,H,I.kept k,?_,q⟩
 by_cases d:j<i
 .rw[gV d,gV d];exact⟨_,rfl⟩
 .rw[Yl d,Yl d];exact⟨_,rfl⟩
end
def jY.some_of(r:jY (some v) o):∃u,o=some u/\RelV v u:=by
 cases o with
 |none=>exact(show False from r).elim
 |some u=>exact⟨u,rfl,r⟩
structure fL(k:Nat)(A:Around):Prop where
 hd:A.handled=none
 dp:A.depth+3*k+5<recursionLimit
 un:A.units+16*k+200<cLine
theorem fL.deeper(r:fL (k+1) A)(env:Env):fL k (A.deeper env):=
 ⟨r.hd,by have:=r.dp;show A.depth+1+3*k+5<_;lia,by have:=r.un;show A.units+3+16*k+200<_;lia⟩
theorem fL.depth(r:fL k A):A.depth<recursionLimit:=by have:=r.dp;lia
theorem fL.units(r:fL k A):A.units+64<cLine:=by have:=r.un;lia
def VG:TA:=λ_ H Q=>Q [] H
def Ru(z:TE)(tr:TA):TA:=λσ H Q=>z σ H λx H1=>tr σ H1 λxs H2=>Q (x :: xs) H2
section
variable{X:Cx}{e:Expr}{es:Kj}{te:TE}{t:TA}{pos:Pos}
def lU:PA X [] VG:=λ_ _ _ _ H Q I h=>aaY ⟨[],H,I,.nil,h⟩
def jq(z:PE X e te)(hr:PA X es t)(Z:q5 e es X.env:=by rfl):PA X (e :: es) (Ru te t):=by
 intro pos a s σ H Q I h;rw[Z];show wpAny _ _ (spliced ((false,eval e X.env) :: backTo pos (starEach es X.env))) _ _ s;refine aaC (bI (z a s σ H _ I h) λu s1 zr=>?_);obtain⟨x,H1,I1,b,c⟩:=zr;exact bI (hr pos a s1 σ H1 _ I1 c) λg s2 ⟨xs,H2,I2,d,f⟩=>⟨x :: xs,H2,I2,.cons b d,f⟩
def VH(t:TA):TE:=λσ H Q=>t σ H λxs H1=>xs.length<=sizeLine/\∀p,H1 p=none->Q (.ref p) (upd H1 p (.tup xs))
def VI(t:TA):TE:=λσ H Q=>t σ H λxs H1=>xs.length<=sizeLine/\∀p,H1 p=none->Q (.ref p) (upd H1 p (.lst xs))
def Mt(h:PA X es t):PE X (.Tuple es x1 pos) (VH t):=by
 intro a s σ H Q I hq;refine wpAny_Tuple_spliced (bI (h pos a s σ H _ I hq) λc s1 ⟨xs,H1,I1,r,z,q⟩=>⟨by rw[<-r.length];exact z,?_⟩);have d:=I1.hok.fresh (Zw _);refine⟨.ref s1.heap.objs.size,upd H1 s1.heap.objs.size (.tup xs),I1.laid (λb u e=>ZD _ e) (Zw _) ?_,rfl,q _ d⟩;exact⟨z,c,r,⟨_,ZM _ rfl,rfl,_,rfl⟩⟩
def Mu(h:PA X es t):PE X (.List es pos) (VI t):=by
 intro a s σ H Q I hq;refine wpAny_List_spliced (bI (h pos a s σ H _ I hq) λc s1 ⟨xs,H1,I1,r,z,q⟩=>⟨by rw[<-r.length];exact z,?_⟩);have d:=I1.hok.fresh (Zw _);refine⟨.ref s1.heap.objs.size,upd H1 s1.heap.objs.size (.lst xs),I1.laid (λb u e=>ZD _ e) (Zw _) ?_,rfl,q _ d⟩;exact⟨z,c,0,r,ZM _ rfl⟩
end
abbrev Sp:=List V->Hp->VK->XK->Prop
abbrev lV:=List Env->Hp->Shared->XK->Φ
structure A9(P:Program)(w:World)(K:Ψ)(mg:Kx)(base:Heap)(A:Around)(outer:List Env)(s:Shared)(H:Hp):Prop where
 frames:A.frames=some outer
 mod:Mod K mg base
 bs:∀b o,base.get? b=some o->s.heap.get? b=some o/\H b=none
 qW:base.objs.size<=s.heap.objs.size
 jm:s.heap.FunFrames base outer
 uJ:∀b∈frs outer,H b=none
 hok:dS P w H s.heap
 bare:AllBare s.gens
def CE(outer:List Env)(P:Program)(w:World)(H:Hp)(s:Shared)(Q:VK)(u:Value)(s':Shared):Prop:=
 ∃v H',s'.os=s.os/\AllBare s'.gens/\Un (frs outer) [] H H' s.heap s'.heap/\dS P w H' s'.heap/\RelV v u/\Q v H'
def CR(CX:lV)(outer:List Env)(P:Program)(w:World)(H:Hp)(s:Shared)(Q:VK)(E:XK)(r:Result)(s':Shared):Prop:=
 match r with
 |.ok (.ret u)=>CE outer P w H s Q u s'
 |.ok _=>False
 |.error e=>CX outer H s E e s'
structure fc(P:Program)(w:World)(K:Ψ)(mg:Kx)(base:Heap)(CX:lV)(k:Nat)(f:Addr)(fd:FuncData)(ps:Y1)(sp:Sp):Prop where
 len:∀vs H Q E,sp vs H Q E->vs.length=ps.length
 run:∀(A:Around) (outer:List Env) (s:Shared) (H:Hp) (args:Args) (us:W1) (vs:Ty) (Q:VK) (E:XK),fL k A->A9 P w K mg base A outer s H->BindsTo s fd args (ps.zip us)->Vals vs us->sp vs H Q E->
  codeAny (model P w) A (.call (.ref f) args) (CR CX outer P w H s Q E) s
section
variable{X:Cx}{pins:Ω}{σ:St}{H:Hp}{s s':Shared}
def Inv.Mv(I:Inv X pins σ H s):A9 X.prog X.w X.K X.mg X.base X.A X.stack s H:=
 ⟨I.ok.frames,I.ok.mod,I.bs,ZL I.ok.qW I.sz,I.stack,I.tO,I.hok,I.bare⟩
def Inv.after(I:Inv X pins σ H s)(h:CE X.stack X.prog X.w H s Q u s'):EP X pins σ Q u s':=by
 obtain⟨v,H',e,bare,un,a,r,q⟩:=h;obtain⟨f,g,d,t,c⟩:=s';obtain rfl:c=s.os:=e;exact⟨v,H',I.call un a bare (λb z=>absurd z (by simp)),r,q⟩
end
def Rw(sp:Sp)(jO:Ty)(E:XK)(t:TA):TE:=λσ H Q=>t σ H λa H1=>sp (a++jO) H1 Q E
def Binds(K:Ψ)(fd:FuncData)(ps:Y1)(ds:W1):Prop:=
 ∀(s:Shared) (us:W1),K.In s.heap->(us++ds).length=ps.length->BindsTo s fd ⟨us,[]⟩ (ps.zip (us++ds))
def Binds.all{K:Ψ}(h:∀us:W1,us.length=ps.length->bindArgs fd ⟨us,[]⟩=pure (ps.zip us)):Binds K fd ps []:=λs us _ a=>by
 rw[ZK]at a ⊢;exact .of_eq (h us a)
def Passes(CX:lV)(X:Cx)(E:XK):Prop:=∀(pins:Ω) (σ:St) (H:Hp) (s:Shared) (e:Value) (s':Shared),Inv X pins σ H s->CX X.stack H s E e s'->X.xe e s'
section
variable{X:Cx}{CX:lV}{k:Nat}{f:Addr}{fd:FuncData}{ps:Y1}{sp:Sp}{jO:Ty}{ds:W1}{E:XK}{x:Str}{p pos:Pos}{e:Expr}{es:Kj}{t:TA}
def Mw{pins:Ω}{σ:St}{H:Hp}{s:Shared}{Q:VK}{us:W1}{vs:Ty}(F:fc X.prog X.w X.K X.mg X.base CX k f fd ps sp)(hr:fL k X.A)(z:Binds X.K fd ps ds)(hd:Vals jO ds)(Z:Passes CX X E)(I:Inv X pins σ H s)(r:Vals vs us)(h:sp (vs++jO) H Q E):wpAny (model X.prog X.w) X.A (call (.ref f) us) (EP X pins σ Q) X.xe s:=by
 have b:Vals (vs++jO) (us++ds):=r.append hd;have c:(us++ds).length=ps.length:=by rw[<-b.length];exact F.len _ _ _ _ h
 refine abv (aa6 (F.run X.A X.stack s H ⟨us,[]⟩ (us++ds) (vs++jO) Q E hr I.Mv (z s us I.lT c) b h) λr d a=>?_);cases r with
 |error e=>exact Z pins σ H s e d I a
 |ok fl=>
  cases fl with
  |ret u=>exact I.after a
  |next=>exact False.elim a
  |brk=>exact False.elim a
  |cont=>exact False.elim a
def JB(F:fc X.prog X.w X.K X.mg X.base CX k f fd ps sp)(hr:fL k X.A)(hg:Gl X x)(hm:X.mg x=some (.ref f))(hk:W.keepIn X.K (.ref f)=true)(hb:Binds X.K fd ps ds)(hd:Vals jO ds)(hx:Passes CX X E)(ha:PA X (e :: es) t)(z:(x==("__debug__":Str))=false:=by decide)(he:q5 e es X.env:=by rfl)(Z:q7 pos es X.env:=by rfl):
  PE X (.Call (.Name x p) (e :: es) [] pos) (Rw sp jO E t):=by
 intro a s σ H Q I h;refine aao (o8 I hg hm ?_ z);refine aa8 (h₀:=X.base) I.ok.mod.dF hk (bI (ha pos a s σ H _ I h) λb s1 ⟨c,H1,I1,r,q⟩=>⟨I1.lT,?_⟩) he Z;exact Mw F hr hb hd hx I1 r q
end
structure bE(N P:Y1)(sc:Scope):Prop where
 kind:sc.kind=.function
 co:sc.isCoroutine=false
 gen:sc.isGenerator=false
 nd:N.Nodup
 pre:N.take P.length=P
 par:∀x∈P,sc.names.lookup x=some .local\/sc.names.lookup x=some .cell
 Mx:∀y∈sc.names,y.2≠.free
theorem uL{kindOf:Str->Option NameKind}:∀{binds:List (Str×Value)}{m:Kx},(∀v,(x,v)∉binds)->bindL kindOf binds m x=m x
 |[],_,_=>rfl
 | (n,v) :: r,m,h=>by
  unfold bindL;rw[uL λw a=>h w (ZN _ a)];split
  .have:x≠n:=by rintro rfl;exact h v ZX
   simp[this]
  .rfl
theorem uM{kindOf:Str->Option NameKind}:∀{binds:List (Str×Value)}{m:Kx},(∀v,(x,v)∉binds)->bindC kindOf binds m x=m x
 |[],_,_=>rfl
 | (n,v) :: r,m,h=>by
  unfold bindC;rw[uM λw a=>h w (ZN _ a)];split
  .rfl
  .have:x≠n:=by rintro rfl;exact h v ZX
   simp[this]
theorem uN{kindOf:Str->Option NameKind}:∀{P:Y1}{vs:W1}{i:Nat}{m:Kx},P.Nodup->P[i]?=some x->vs[i]?=some v->kindOf x=some .local->
  bindL kindOf (P.zip vs) m x=some v
 |[],_,_,_,_,h,_,_=>by simp at h
 |_ :: _,[],_,_,_,_,h,_=>by simp at h
 |p :: P,w :: vs,0,m,nd,h1,h2,hk=>by
  simp at h1 h2;subst h1;subst h2;show bindL kindOf ((p,w) :: P.zip vs) m p=_;unfold bindL;rw[uL λv a=>(List.nodup_cons.mp nd).1 (abz a).1,gV hk];simp
 |p :: P,w :: vs,i+1,m,nd,h1,h2,hk=>by
  show bindL kindOf ((p,w) :: P.zip vs) m x=_;unfold bindL;exact uN (i:=i) (List.nodup_cons.mp nd).2 (by simpa using h1) (by simpa using h2) hk
theorem uO{kindOf:Str->Option NameKind}{v:Value}:∀{P:Y1}{vs:W1}{i:Nat}{m:Kx},P.Nodup->P[i]?=some x->vs[i]?=some v->kindOf x≠some .local->
  bindC kindOf (P.zip vs) m x=some v
 |[],_,_,_,_,h,_,_=>by simp at h
 |_ :: _,[],_,_,_,_,h,_=>by simp at h
 |p :: P,w :: vs,0,m,nd,h1,h2,hk=>by
  simp at h1 h2;subst h1;subst h2;show bindC kindOf ((p,w) :: P.zip vs) m p=_;unfold bindC;rw[uM λv a=>(List.nodup_cons.mp nd).1 (abz a).1,Yl hk];simp
 |p :: P,w :: vs,i+1,m,nd,h1,h2,hk=>by
  show bindC kindOf ((p,w) :: P.zip vs) m x=_;unfold bindC;exact uO (i:=i) (List.nodup_cons.mp nd).2 (by simpa using h1) (by simpa using h2) hk
def start(N:Y1)(vs:Ty):St:=vs.map some++List.replicate (N.length - vs.length) none
def ly(CX:lV)(P:Program)(w:World)(K:Ψ)(mg:Kx)(base:Heap)(N:Y1)(qual:Str)(scope:Scope)(f:Addr)(z:Value)(A:Around)(outer:List Env)(s:Shared)(H:Hp)(E:XK):Cx where
 prog:=P
 w:=w
 K:=K
 mg:=mg
 base:=base
 A:=A.deeper (envOfC qual scope s.heap.objs.size f z)
 N:=N
 s₀:=s
 H₀:=H
 env:=envOfC qual scope s.heap.objs.size f z
 outer:=outer
 stack:=envOfC qual scope s.heap.objs.size f z :: outer
 ex:=[]
 calm:=true
 fn:=λ_=>true
 pn:=[]
 xe:=λe b=>wpAny (model P w) (A.deeper (envOfC qual scope s.heap.objs.size f z)) (leaving (envOfC qual scope s.heap.objs.size f z) e) (λ_ a=>CX outer H s E e a) (λc a=>CX outer H s E c a) b
def wC{sc:Scope}(h:sc.names.lookup x=some .cell):∃c,(cellsFrom n sc.names []).lookup x=some c:=by
 have q:=abi sc.names n [] (.inl h);exact gN q
def CF{CX:lV}{P:Program}{w:World}{K:Ψ}{mg:Kx}{base:Heap}{N ps:Y1}{qual:Str}{scope:Scope}{f:Addr}{cd:Value}{A:Around}{outer:List Env}{s s1:Shared}{H:Hp}{E:XK}{us:W1}{vs:Ty}(S:bE N ps scope)(hd:A.handled=none)(Z:A9 P w K mg base A outer s H)(hl:vs.length=ps.length)(r:Vals vs us)(x:InCallC s s.heap.objs.size (bindL (envOfC qual scope s.heap.objs.size f cd).kindOf (ps.zip us) λ_=>none) (cellsFrom (s.heap.objs.size+1) scope.names []) (bindC (envOfC qual scope s.heap.objs.size f cd).kindOf (ps.zip us) λ_=>none) s1):
  Inv (ly CX P w K mg base N qual scope f cd A outer s H E) [] (start N vs) H s1:=by
 have F:ps.length<=N.length:=by have:=ZJ List.length S.pre;rw[Z9]at this;lia
 obtain⟨l,tk,rfl,B⟩:=x.done;have CG:∀b:Addr,b∉(ly CX P w K mg base N qual scope f cd A outer s H E).ex:=λb z=>absurd (show b∈([]:Y2)from z) (by simp);refine⟨⟨Z.mod,S.kind,rfl,rfl,Zw _,λy z c l d=>?_,λy g=>?_,λy c _ h=>?_,λ_=>hd,Around.frames_deeper Z.frames,.inr ⟨rfl,rfl⟩,λb z=>absurd z (CG b),Z.bs,Z.qW,λb _ _=>CG b,λb z=>absurd z (CG b),Z.jm,Z.uJ⟩,
  rfl,Z.bare,Un.kept B,⟨_,x.toInCall.ns,λi y v l d I=>?_⟩,λy c h=>⟨_,x.cell y c h⟩,Z.hok.fresh (Zw _),λy c h=>?_,λp j=>absurd (show p∈([]:Ω)from j) (by simp),Z.hok.kept B,?_⟩
 .exact name_of_addr x.apart (aaN l) (aaN d)
 .have g:scope.names.lookup y=some .cell\/scope.names.lookup y=some .free:=g;rcases g with g|g
  .exact wC g
  .exact absurd rfl (S.Mx _ (aaN g))
 .exact ab2 (x.above y c (aaN h))
 .have o:i<vs.length:=by
   unfold start at d;by_cases o:i<vs.length
   .exact o
   .rw[ZY (by simpa using o)]at d;rw[acf]at d;split at d<;>cases d
  have G:vs[i]?=some v:=by
   unfold start at d;rw[oW (by simpa using o),aaa]at d;cases e:vs[i]? with
   |none=>rw[e]at d;exists d
   |some a=>rw[e]at d;cases d;rfl
  obtain⟨u,C,rv⟩:=r.get G;have j:ps[i]?=some y:=by
   rw[<-S.pre,List.getElem?_take_of_lt (by lia)];exact l
  have Te:ps.Nodup:=by rw[<-S.pre];exact S.nd.sublist (List.take_sublist _ _)
  refine⟨u,rv,?_⟩;rcases S.par y (ZA j)with k|k
  .exact .inl ⟨k,uN Te j C k⟩
  .obtain⟨c,e⟩:=wC (n:=s.heap.objs.size+1) k;refine .inr ⟨.inl k,c,e,?_⟩;have q:=x.cell y c e;rw[uO Te j C (by show scope.names.lookup y≠_;rw[k];decide)]at q;exact q
 .exact Z.hok.fresh (ab2 (x.above y c (aaN h)))
 .unfold start;show _=N.length;rw[Zx,ZF,abu];lia
def HJ{CX:lV}{P:Program}{w:World}{K:Ψ}{mg:Kx}{base:Heap}{k:Nat}{f:Addr}{name qual:Str}{params:Arguments}{body:List Stmt}{scope:Scope}{dV kV doc pm cdv ct oc:Value}{an od:Option Addr}{osl:Array (Option Value)}{N ps:Y1}{sp:Sp}(lk:K.lookup f=some ⟨oc,od,.func (W.fnOf name qual params body scope dV kV doc pm an cdv ct),osl⟩)(hcd:W.codeIn K cdv qual=true)(S:bE N ps scope)(len:∀vs H Q E,sp vs H Q E->vs.length=ps.length)(Z:∀(A:Around) (outer:List Env) (s:Shared) (H:Hp) (vs:Ty) (Q:VK) (E:XK),fL k (A.deeper (envOfC qual scope s.heap.objs.size f cdv))->sp vs H Q E->
   ∃t,gm (ly CX P w K mg base N qual scope f cdv A outer s H E) body t/\t { nx:=λ_ H'=>Q .aU H',rt:=Q } (start N vs) H):
  fc P w K mg base CX (k+1) f (W.fnOf name qual params body scope dV kV doc pm an cdv ct) ps sp:=by
 refine⟨len,λA outer s H args p vs Q E h d z r l=>?_⟩;have B:=len _ _ _ _ l;have KX:K.In s.heap:=d.mod.dF.keeps λb o e=>(d.bs b o e).1;have i:s.heap.NoLimit:=d.mod.nolimit.keeps λb o e=>(d.bs b o e).1;have a:∀y∈ps.zip p,scope.names.lookup y.1=some .local\/(scope.names.lookup y.1=some .cell/\((cellsFrom (s.heap.objs.size+1) scope.names []).lookup y.1).isSome=true):=λ⟨n,v⟩ C=>by
  rcases S.par n (abz C).1 with q|q
  .exact .inl q
  .exact .inr ⟨q,abi _ _ _ (.inl q)⟩
 refine codeAny_call_function h.depth (KX _ _ lk) rfl S.co S.gen rfl (acK KX hcd) (z _ _ _ _ ?_);refine abP S.kind a λF G s1 x=>?_;subst G;refine⟨i.keeps x.toInCall.keep,codeAny_func ?_⟩;obtain⟨t,L,M⟩:=Z A outer s H vs Q E (h.deeper _) l;have I:Inv (ly CX P w K mg base N qual scope f cdv A outer s H E) [] (start N vs) H s1:=CF S h.hd d B r x;refine ZT (L [] s1 (start N vs) H _ I M) (λfl j c=>?_) λe j c=>c;have fin:∀{g:St} {H':Hp} {v:V} {u:Value},Inv (ly CX P w K mg base N qual scope f cdv A outer s H E) [] g H' j->RelV v u->Q v H'->CE outer P w H s Q u j:=
  λ{g H' v u} J rv q=>⟨v,H',J.os,J.bare,J.base,J.hok,rv,q⟩
 cases fl with
 |ret u=>
  obtain⟨v,g,H',J,rv,q⟩:=c;exact fin J rv q
 |next=>
  obtain⟨g,H',J,q⟩:=c;exact fin (v:=V.aU) (u:=Value.none) J rfl q
 |brk=>
  obtain⟨_,_,_,q⟩:=c;exact False.elim q
 |cont=>
  obtain⟨_,_,_,q⟩:=c;exact False.elim q
section
variable{X:Cx}{x:Str}{p pos:Pos}{e:Expr}{es:Kj}{t:TA}{id T:String}{r:List V->Hp->VK->Prop}
def My(r:List V->Hp->VK->Prop)(t:TA):TE:=λσ H Q=>t σ H λa H1=>r a H1 Q
def wD(hc:gn X (.builtin id) r)(hg:Gl X x)(hm:X.mg x=none)(hv:bootBuiltins x=some (.builtin id))(ha:PA X (e :: es) t)(hn:x≠"__name__" :=by decide)(z:(x==("__debug__":Str))=false:=by decide)(he:q5 e es X.env:=by rfl)(Z:q7 pos es X.env:=by rfl):PE X (.Call (.Name x p) (e :: es) [] pos) (My r t):=by
 intro a s σ H Q I h;refine aao (jN I hg hm hv ?_ hn z);exact PyProof.Rows.callWith_builtin1 (bI (ha pos a s σ H _ I h) λb s1 ⟨c,H1,I1,d,f⟩=>hc a s1 σ H1 c b Q I1 d f) he Z
def CH(hc:gn X (.type T) r)(hg:Gl X x)(hm:X.mg x=none)(hv:bootBuiltins x=some (.type T))(ha:PA X (e :: es) t)(hn:x≠"__name__" :=by decide)(z:(x==("__debug__":Str))=false:=by decide)(he:q5 e es X.env:=by rfl)(Z:q7 pos es X.env:=by rfl):PE X (.Call (.Name x p) (e :: es) [] pos) (My r t):=by
 intro a s σ H Q I h;refine aao (jN I hg hm hv ?_ hn z);exact aaE (bI (ha pos a s σ H _ I h) λb s1 ⟨c,H1,I1,d,f⟩=>hc a s1 σ H1 c b Q I1 d f) he Z
end
end L2
namespace HT
open PySem PyProof.Rows
section
variable{prog:Program}{w:World}{A:Around}{E:Φ}{s:Shared}
def JD(ht:IsTup s.heap t vs.toArray)(hb:IsTup s.heap b z.toArray)(Z:vs≠[])(h1:z=[]->Q (.ref t) s)(h2:z≠[]->Q (.ref s.heap.objs.size) { s with heap:=s.heap.push { cls:=.type "tuple",data:=.seq (vs++z).toArray }})(I:vs.length+z.length<=sizeLine):wpAny (model prog w) A (binaryOp .Add (.ref t) (.ref b)) Q E s:=by
 obtain⟨⟨cls,dd,data,l⟩,f,o,n,p⟩:=id ht;obtain⟨⟨VJ,c,h,d⟩,a,i,n2,j⟩:=id hb;subst o p i j;have e:vs.toArray++z.toArray=(vs++z).toArray:=by simp
 by_cases g:z=[]
 .exact concat_meets ⟨_,f,rfl⟩ ⟨_,a,rfl⟩ ab4 seq_tuple_add abk abe (abc _ _)
   (tuple_addW1 t b vs.toArray z.toArray n n2 dd c l d (by simpa using Z) (by simp[g])) ⟨f,a,h1 g⟩
 .refine concat_meets ⟨_,f,rfl⟩ ⟨_,a,rfl⟩ ab4 seq_tuple_add abk abe (abc _ _)
   (tuple_addW2 t b vs.toArray z.toArray n n2 dd c l d (by simpa using Z) (by simpa using g) (by exact I)) ⟨f,a,?_⟩
  rw[e];exact h2 g
def aS(n d:Nat):Option Int->Nat
 |none=>d
 |some v=>if v<0 then (v+(n:Int)).toNat else min v.toNat n
def CJ(n d:Nat)(hd:d<=n)(o:Option Int):aS n d o<=n:=by
 cases o with
 |none=>exact hd
 |some v=>
  show(if v<0 then (v+n).toNat else min v.toNat n)<=n;by_cases a:v<0
  .lia
  .rw[Yl a];exact Nat.min_le_right _ _
def zv(v:Int)(n d:Nat):(if v<0 then max (v+(n:Int)) 0 else min v (n:Int))=((aS n d (some v):Nat):Int):=by
 show(if v<0 then max (v+n) 0 else min v n)=(((if v<0 then (v+(n:Int)).toNat else min v.toNat n):Nat))
 by_cases a:v<0
 .lia
 .lia
def Ba(lo hi:Option Int)(n:Nat):Builtin.Slice.sliceAdjust lo hi 1 (n:Int)=(((aS n 0 lo:Nat):Int),((aS n n hi:Nat):Int)):=by
 refine Prod.ext ?_ ?_
 .cases lo with
  |none=>rfl
  |some v=>exact zv v n 0
 .cases hi with
  |none=>rfl
  |some v=>exact zv v n n
def Bb(i j:Nat):Builtin.Slice.slicePlaces (i:Int) (j:Int) 1=j - i:=by
 unfold Builtin.Slice.slicePlaces;have a:1 > 0:=by lia
 split<;>lia
def qZ(p:IsPart v o)(h:Q o s):wpAny (model prog w) A (Builtin.Slice.slicePartIndex v) Q E s:=by
 cases p with
 |none=>exact slicePart_none h
 |int i t=>exact slicePart_int h
def ku{lo hi:Option Int}{Q:Int×Int×Nat->Shared->Prop}(z:s.heap.IsSliceOf sl vl vu .none)(I:IsPart vl lo)(Z:IsPart vu hi)(h:Q (((aS n 0 lo:Nat):Int),1,aS n n hi - aS n 0 lo) s):wpAny (model prog w) A (Builtin.Slice.sliceApplied (.ref sl) (pure (n:Int))) Q E s:=by
 obtain⟨d,a,c,b⟩:=id z;refine gH (gH (aaA a b rfl (gH (aaA a b rfl (gH (aaA a b rfl (Ws ?_)))))));refine gH (slicePart_none ?_);refine gH (qZ I (gH (qZ Z (gH (Ws ?_)))));show wpAny _ _ (match Builtin.Slice.sliceAdjust lo hi 1 n with | (lo,hi)=>pure (lo,(1:Int),Builtin.Slice.slicePlaces lo hi 1)) _ _ s;rw[Ba lo hi n];show wpAny _ _ (pure (((aS n 0 lo):Int),1,Builtin.Slice.slicePlaces ((aS n 0 lo:Nat)) ((aS n n hi:Nat)) 1)) _ _ s;rw[Bb];exact Ws h
def E6(xs:Array Value)(i k:Nat):((List.range k).filterMap λ(m:Nat)=>xs[((i:Int)+(m:Int)*1).toNat]?).toArray=((xs.toList.drop i).take k).toArray:=by
 have e:(λ(m:Nat)=>xs[(i+(m:Int)*1).toNat]?)=λm=>xs[i+m]?:=by
  funext m
  have:(i+(m:Int)*1).toNat=i+m:=by lia
  rw[this]
 rw[e];have:=pick_run xs i k;rw[List.filterMap_map]at this;have a:((λx=>xs[x]?) ∘ λx=>i+x)=λm=>xs[i+m]?:=rfl;rw[a]at this;rw[this]
def pV{lo hi:Option Int}(z:IsTup s.heap t items)(I:s.heap.IsSliceOf sl vl vu .none)(Z:IsPart vl lo)(pu:IsPart vu hi)(hw:¬ (aS items.size 0 lo=0/\aS items.size items.size hi=items.size))(h:Q (.ref s.heap.objs.size) { s with heap:=s.heap.push { cls:=.type "tuple",data:=.seq ((items.toList.drop (aS items.size 0 lo)).take (aS items.size items.size hi - aS items.size 0 lo)).toArray }})(hsz:items.size<=sizeLine):wpAny (model prog w) A (getItem (.ref t) (.ref sl)) Q E s:=by
 have a:sizeOk (.seq ((items.toList.drop (aS items.size 0 lo)).take (aS items.size items.size hi - aS items.size 0 lo)).toArray):=by
  show((items.toList.drop (aS items.size 0 lo)).take (aS items.size items.size hi - aS items.size 0 lo)).toArray.size<=sizeLine;rw[ZC,Z9,Z4,aaP];lia
 obtain⟨e,b,c,f⟩:=id I;have Mz:s.TypeIs (.ref sl) "slice" :=⟨e,b,c⟩
 unfold getItem;try with_reducible refine aan ?_
 first|refine gH (Ws ?_)|skip
 refine gH (wpAny_sequenceKey z.typeIs (by decide) ?_);refine gH (aaQ z.typeIs aar
  (aax aar z.typeIs entry_tuple_getitem ?_ (args_tuple_getitem _ _)))
 show wpAny _ _ (Builtin.Tuple.tupleItemsOf (.ref t) >>= _) _ _ s;refine gH (tupleItemsOf_ z ?_);refine gH (ab0 Mz ?_);refine gH (ku I Z pu ?_);have d:¬ ((((aS items.size 0 lo):Int)==0&&(1:Int)==1&&(aS items.size items.size hi - aS items.size 0 lo)==items.size)=true):=by
  intro q;rw[yK,yK]at q;have g:((aS items.size 0 lo:Nat):Int)=0:=eq_of_beq q.1.1;have i:aS items.size items.size hi - aS items.size 0 lo=items.size:=eq_of_beq q.2;exact hw ⟨by lia,by lia⟩
 show wpAny _ _ (if (((aS items.size 0 lo:Nat):Int)==0&&(1:Int)==1&&(aS items.size items.size hi - aS items.size 0 lo)==items.size)=true then _ else _) _ _ s;rw[Yl d,E6];first
  |exact gH (m:=Builtin.Tuple.tupleExact _) (aak (Ws ⟨_,rfl,Ws h⟩) a)
  |exact gH (m:=Builtin.Tuple.tupleExact _) (aak (gH (Ws (Ws ⟨_,rfl,Ws h⟩))) a)
  |exact gH (gH (m:=Builtin.Tuple.tupleExact _) (aak (Ws (Ws ⟨_,rfl,Ws h⟩)) a))
  |exact gH (gH (m:=Builtin.Tuple.tupleExact _) (aak (Ws ⟨_,rfl,Ws h⟩) a))
end
end HT
namespace L2
open PySem PySem.Spec PyProof.Rows
abbrev TO:=St->Hp->(Option Int->Hp->Prop)->Prop
def PO(X:Cx)(e:Option Expr)(t:TO):Prop:=
 ∀(pins:Ω) (s:Shared) (σ:St) (H:Hp) (Q:Option Int->Hp->Prop),Inv X pins σ H s->t σ H Q->
  wpAny (model X.prog X.w) X.A (evalPart e X.env) (λu a=>∃o H',Inv X pins σ H' a/\IsPart u o/\Q o H') X.xe s
def JF:TO:=λ_ H Q=>Q none H
def Ry(t:TE):TO:=λσ H Q=>t σ H λx H1=>∃i,x=.int i/\Q (some i) H1
section
variable{X:Cx}{e:Expr}{te:TE}{lo hi:Option Expr}{tl th:TO}{pos p2:Pos}
def JH:PO X none JF:=by
 intro a s σ H Q I h;exact Ws ⟨none,H,I,.none,h⟩
def JJ(h:PE X e te):PO X (some e) (Ry te):=by
 intro a s σ H Q I hw;refine bI (h a s σ H _ I hw) λu s1 zr=>?_;obtain⟨x,H1,I1,b,c⟩:=zr;obtain⟨i,rfl,q⟩:=c;obtain⟨t,rfl⟩:=b;exact⟨some i,H1,I1,.int i t,q⟩
def nj(X:Cx)(r:V->Option Int->Option Int->Hp->VK->Prop):Prop:=
 ∀(pins:Ω) (s:Shared) (σ:St) (H:Hp) (x:V) (v vl vu:Value) (lo hi:Option Int) (sl:Addr) (Q:VK),Inv X pins σ H s->RelV x v->s.heap.IsSliceOf sl vl vu .none->IsPart vl lo->IsPart vu hi->r x lo hi H Q->
  ∃T id,typeLookup (.type T) "__getitem__" = pure (some (.builtin id))/\s.TypeIs v T/\wpAny (model X.prog X.w) X.A (getItem v (.ref sl)) (EP X pins σ Q) X.xe s
def WT(r:V->Option Int->Option Int->Hp->VK->Prop)(te:TE)(tl th:TO):TE:=λσ H Q=>te σ H λx H1=>tl σ H1 λl H2=>th σ H2 λu H3=>r x l u H3 Q
def E7(hr:nj X r)(Z:PE X e te)(hl:PO X lo tl)(hu:PO X hi th):PE X (.Subscript e (.Slice lo hi none p2) pos) (WT r te tl th):=by
 intro a s σ H Q I h;refine Subscript_ (bI (Z a s σ H _ I h) λv s1 ⟨x,H1,I1,f,g⟩=>?_);refine wpAny_Slice (bI (hl a s1 σ H1 _ I1 g) λc s2 ⟨l,H2,I2,i,j⟩=>bI (hu a s2 σ H2 _ I2 j) λd s3 ⟨u,H3,I3,o,p⟩=>?_);refine Ws ?_;have I4:Inv X a σ H3 { s3 with heap:=s3.heap.push { cls:=.type "slice",data:=.fields #[c,d,.none]}}:=I3.kept λb B q=>ZD _ q;obtain⟨T,id,y,z,A⟩:=hr a { s3 with heap:=s3.heap.push { cls:=.type "slice",data:=.fields #[c,d,.none]}} σ H3 x v c d l u s3.heap.objs.size Q I4 f (Heap.IsSliceOf.new ..) i o p;exact tail_any z y A (by with_unfolding_all rfl)
def tP(xs:Ty)(lo hi:Option Int):Ty:=(xs.drop (HT.aS xs.length 0 lo)).take (HT.aS xs.length xs.length hi - HT.aS xs.length 0 lo)
def pY(xs:Ty)(lo hi:Option Int):(tP xs lo hi).length<=xs.length:=by
 unfold tP;rw[Z9,Z4];lia
def VL(K:Ψ):V->Option Int->Option Int->Hp->VK->Prop:=λx lo hi H Q=>∃a xs,x=.ref a/\dN K H a xs/\
 ¬ (HT.aS xs.length 0 lo=0/\HT.aS xs.length xs.length hi=xs.length)/\∀p,H p=none->Q (.ref p) (upd H p (.tup (tP xs lo hi)))
def MA:nj X (VL X.K):=by
 intro f s σ H x v vl vu lo hi sl Q I rx hs pl pu h;obtain⟨a,xs,rfl,i,j,q⟩:=h;cases rx;obtain⟨d,r,g,hz⟩:=I.tuple i;have c:d.toArray.size=xs.length:=by exact r.length.symm
 refine⟨"tuple",_,PyProof.Rows.slot_tuple_getitem.lookup,g.typeIs,?_⟩;refine HT.pV g hs pl pu (by rw[c];exact j) ?_ (by rw[c];exact hz);rw[c];refine⟨.ref s.heap.objs.size,_,I.laid (λb l q=>ZD _ q) (Zw _) ?_,rfl,q _ (I.hok.fresh (Zw _))⟩;exact⟨ZL (pY xs lo hi) hz,_,(r.drop (HT.aS xs.length 0 lo)).take (HT.aS xs.length xs.length hi - HT.aS xs.length 0 lo),IsTup.new _ _⟩
def Rz(K:Ψ):R2:=λx y H Q=>∃a b xs ys,x=.ref a/\y=.ref b/\dN K H a xs/\dN K H b ys/\xs≠[]/\xs.length+ys.length<=sizeLine/\
 (ys=[]->Q (.ref a) H)/\(ys≠[]->∀p,H p=none->Q (.ref p) (upd H p (.tup (xs++ys))))
def Vals.tQ(r:Vals xs us):us=[]↔xs=[]:=by
 cases r with
 |nil=>simp
 |cons _ _=>simp
def JK:dJ X (binaryOp .Add) (Rz X.K):=by
 intro f s σ H x y v u Q I rx ry h;obtain⟨a,b,xs,B,rfl,rfl,i,j,l,hz,o,p⟩:=h;cases rx;cases ry;obtain⟨r,d,A,_⟩:=I.tuple i;obtain⟨g,c,p2,_⟩:=I.tuple j;refine HT.JD A p2 (λz=>l (d.tQ.mp z)) (λz=>⟨.ref a,H,I,rfl,o (c.tQ.mp z)⟩) (λz=>?_) (by rw[<-d.length,<-c.length];exact hz);refine⟨.ref s.heap.objs.size,_,I.laid (λb C q=>ZD _ q) (Zw _) ?_,rfl,p (λw=>z (c.tQ.mpr w)) _ (I.hok.fresh (Zw _))⟩;exact⟨by rw[Zx];exact hz,_,d.append c,IsTup.new _ _⟩
end
def dU(n:Nat)(i:Int):Option Nat:=if 0<=i then (if i<n then some i.toNat else none)else if -(n:Int)<=i then some (i+n).toNat else none
def bM{α:Type}(xs:List α)(i:Int):Option α:=(dU xs.length i).bind λj=>xs[j]?
def JL(h:dU n i=some j):seqIndex? i n=some j/\j<n/\-(n:Int)<=i/\i<n:=by
 unfold dU at h;by_cases b:0<=i
 .rw[gV b]at h;by_cases a:i<n
  .rw[gV a]at h;have e:=ZP h;exact⟨by rw[seqIndex_of b a,e],by lia,by lia,a⟩
  .rw[Yl a]at h;exists h
 .rw[Yl b]at h;by_cases a:-n<=i
  .rw[gV a]at h;have e:=ZP h;exact⟨by rw[seqIndex_neg (by lia) a,e],by lia,a,by lia⟩
  .rw[Yl a]at h;exists h
def tR{α:Type}{xs:List α}{v:α}(h:bM xs i=some v):∃j,seqIndex? i xs.length=some j/\xs[j]?=some v/\j<xs.length/\-(xs.length:Int)<=i/\i<xs.length:=by
 unfold bM at h;cases e:dU xs.length i with
 |none=>rw[e]at h;exists h
 |some j=>
  rw[e]at h;obtain⟨a,b,c,d⟩:=JL e;exact⟨j,a,h,b,c,d⟩
def zw{α:Type}{xs:List α}{j:Nat}{v:α}(h:xs[j]?=some v):bM xs (j:Int)=some v:=by
 have a:j<xs.length:=(gL h).1;have e:dU xs.length (j:Int)=some j:=by
  unfold dU;rw[gV (by lia),gV (by lia)];simp
 unfold bM;rw[e];exact h
def zx(b:Expr):Prop:=∀o i,subscripted b false o i=operate [o,i] (getItem o i)
def zy(X:Cx)(r:R2):Prop:=
 ∀(value slice:Expr) (pins:Ω) (s:Shared) (σ:St) (H:Hp) (x y:V) (v u:Value) (Q:VK),Inv X pins σ H s->RelV x v->RelV y u->r x y H Q->
  subscripted slice false v u=operate [v,u] (getItem v u)->wpAny (model X.prog X.w) X.A (subscriptTail value slice v u) (EP X pins σ Q) X.xe s
def uP(X:Cx)(z:String)(r:V->List V->Hp->VK->Prop):Prop:=
 ∀(pins:Ω) (s:Shared) (σ:St) (H:Hp) (x:V) (xs:Ty) (v:Value) (us:W1) (Q:VK),Inv X pins σ H s->RelV x v->Vals xs us->r x xs H Q->
  wpAny (model X.prog X.w) X.A (call (.builtin z) (v :: us)) (EP X pins σ Q) X.xe s
section
variable{X:Cx}{a b:Expr}{ta tb:TE}{pos:Pos}
def RA(hr:zy X r)(z:PE X a ta)(Z:PE X b tb)(hs:zx b):PE X (.Subscript a b pos) (CB r ta tb):=by
 intro c s σ H Q I h;exact Subscript_ (E2 z Z I h λv u s2 x y H2 I2 d e q=>hr a b c s2 σ H2 x y v u Q I2 d e q (hs _ _))
def VM(K:Ψ):R2:=λx y H Q=>∃p xs i v,x=.ref p/\y=.int i/\fJ K H p xs/\bM xs i=some v/\Q v H
def VN(K:Ψ):R2:=λx y H Q=>∃p xs i v,x=.ref p/\y=.int i/\dN K H p xs/\bM xs i=some v/\Q v H
def VO:R2:=λx y H Q=>∃z i c,x=.str z/\y=.int i/\z.length<=sizeLine/\bM z.cps.toList i=some c/\Q (.str ⟨#[c]⟩) H
def JM:zy X (VM X.K):=by
 intro e f c s σ H x y v u Q I rx ry h hs;obtain⟨p,xs,i,z,rfl,rfl,F,G,q⟩:=h;cases rx;obtain⟨t,rfl⟩:=ry;obtain⟨g,r,l,hz⟩:=I.list F;obtain⟨j,d,J,P,L,M⟩:=tR G;obtain⟨w,B,o⟩:=r.get J;have N:=r.length;have W:=nL;have fin:EP X c σ Q w s:=⟨z,H,I,o,q⟩
 by_cases C:0<=i
 .have A:i.toNat=j:=by
   rw[seqIndex_of C M]at d;exact ZP d
  exact item_listR l.isList C (by lia) (by rw[A];simpa using B) fin hs
 .have A:(i+g.toArray.size).toNat=j:=by
   rw[seqIndex_neg (by lia) L]at d;rw[ZC,<-N];exact ZP d
  exact subscriptTail_builtinR l.isList.typeIs slot_list_getitem.lookup
   (wpAny_getItem_list_neg l.isList (by lia) (by rw[ZC]<;>lia) (by lia) (by rw[A];simpa using B) ⟨rfl,fin⟩) hs
def MB:zy X (VN X.K):=by
 intro d e c s σ H x y v u Q I rx ry h hs;obtain⟨p,xs,i,z,rfl,rfl,l,o,q⟩:=h;cases rx;obtain⟨t,rfl⟩:=ry;obtain⟨A,r,g,hz⟩:=I.tuple l;obtain⟨j,B,C,J,L,M⟩:=tR o;obtain⟨w,F,f⟩:=r.get C;have G:=r.length;have N:=nL;have fin:EP X c σ Q w s:=⟨z,H,I,f,q⟩
 exact subscriptTail_builtinR g.typeIs slot_tuple_getitem.lookup
  (getItem_tuple g (by lia) (by lia) (by rw[ZC,<-G];exact B) (by simpa using F) ⟨rfl,fin⟩) hs
def MC:zy X VO:=by
 intro d e f s σ H x y v u Q I rx ry h hs;obtain⟨z,i,c,rfl,rfl,hz,l,q⟩:=h;obtain⟨t,rfl⟩:=rx;obtain⟨F,rfl⟩:=ry;obtain⟨j,g,o,G,p,r⟩:=tR l;have A:z.cps.toList.length=z.length:=by simp[Str.length]
 rw[A]at g p r;have J:=nL;exact tail_any (typeIs_str s z t) slot_str_getitem.lookup (getItem_str (by
  have B:decide (i < -(2 ^ 63))=false:=ZG (by lia);have C:decide (i≥2 ^ 63)=false:=ZG (by lia);rw[B,C,Bool.or_false]) (by rw[g];simpa using o) ⟨.str ⟨#[c]⟩,H,I.tok _,⟨_,rfl⟩,q⟩) hs
def wF(lo hi:Option Int)(n:Nat):(sliceBounds lo hi none n).1=((HT.aS n 0 lo:Nat):Int)/\(sliceBounds lo hi none n).2.1=((HT.aS n n hi:Nat):Int)/\(sliceBounds lo hi none n).2.2=1:=by
 refine⟨?_,?_,rfl⟩
 .cases lo with
  |none=>simp[sliceBounds,HT.aS]
  |some i=>
   simp only[sliceBounds,HT.aS,Option.getD_none,show(1:Int) > 0 by decide,Z2];by_cases h:i<0
   .simp only[h,Z2]<;>lia
   .simp only[h,abn]<;>lia
 .cases hi with
  |none=>simp[sliceBounds,HT.aS]
  |some i=>
   simp only[sliceBounds,HT.aS,Option.getD_none,show(1:Int) > 0 by decide,Z2];by_cases h:i<0
   .simp only[h,Z2]<;>lia
   .simp only[h,abn]<;>lia
def vM(z:W1)(lo hi:Option Int):slicePick z.toArray lo hi none=((z.drop (HT.aS z.length 0 lo)).take (HT.aS z.length z.length hi - HT.aS z.length 0 lo)).toArray:=by
 obtain⟨c,d,e⟩:=wF lo hi z.toArray.size;unfold slicePick;rw[c,d,e];simp only[sliceRange_one,pick_run,ZC]<;>rfl
def VP(K:Ψ):V->Option Int->Option Int->Hp->VK->Prop:=λx c d H Q=>∃a xs,x=.ref a/\fJ K H a xs/\∀p,H p=none->Q (.ref p) (upd H p (.lst (tP xs c d)))
def JN:nj X (VP X.K):=by
 intro d s σ H x v vl vu lo hi sl Q I rx hs pl pu h;obtain⟨a,xs,rfl,f,q⟩:=h;cases rx;obtain⟨g,r,e,hz⟩:=I.list f;have c:=r.length;refine⟨"list",_,slot_list_getitem.lookup,e.isList.typeIs,?_⟩;refine wpAny_getItem_list_slice e.isList hs pl pu .none (by simp) ?_ (by rw[ZC]<;>lia);rw[vM,<-c];refine⟨.ref s.heap.objs.size,_,I.laid (λb i q=>ZD _ q) (Zw _) ?_,rfl,q _ (I.hok.fresh (Zw _))⟩;exact⟨ZL (pY xs lo hi) hz,_,0,(r.drop (HT.aS xs.length 0 lo)).take (HT.aS xs.length xs.length hi - HT.aS xs.length 0 lo),ZM _ rfl⟩
def vQ:V->Bool
 |.aU=>true
 |.bl _=>true
 |.int _=>true
 |.str _=>true
 |_=>false
def nR:gn X (.builtin "len") (λxs H Q=>∃p z,xs=[.ref p]/\(fJ X.K H p z\/dN X.K H p z)/\Q (.int z.length) H):=by
 intro i s σ H xs us Q I r h;obtain⟨p,z,rfl,d,q⟩:=h;obtain⟨u,rfl,j⟩:=vals1 r;cases j;have l:=nL;rcases d with d|d
 .obtain⟨e,f,g,hz⟩:=I.list d;have c:=f.length;exact Calls.call_len_list g.isList (by simp only[ZC]<;>lia) ⟨.int z.length,H,I.tok _,⟨s.toks+1,by rw[ZC,c]⟩,q⟩
 .obtain⟨e,f,g,hz⟩:=I.tuple d;have c:=f.length;exact len_tuple g (by simp only[ZC]<;>lia) ⟨.int z.length,H,I.tok _,⟨s.toks+1,by rw[ZC,c]⟩,q⟩
def wG:gn X (.builtin "len") (λxs H Q=>∃z,xs=[.str z]/\z.length<=sizeLine/\Q (.int z.length) H):=by
 intro c s σ H xs us Q I r h;obtain⟨z,rfl,hz,q⟩:=h;obtain⟨u,rfl,t,rfl⟩:=vals1 r;have d:=nL;exact aaR (by lia) ⟨.int z.length,H,I.tok _,⟨_,rfl⟩,q⟩
def nq:gn X (.type "tuple") (λxs H Q=>∃p Z,xs=[.ref p]/\((fJ X.K H p Z/\∀l,H l=none->Q (.ref l) (upd H l (.tup Z)))\/(dN X.K H p Z/\Q (.ref p) H))):=by
 intro i s σ H xs us Q I r h;obtain⟨p,Z,rfl,h⟩:=h;obtain⟨u,rfl,y⟩:=vals1 r;cases y;rcases h with ⟨d,q⟩|⟨d,q⟩
 .obtain⟨c,f,g,hz⟩:=I.list d;have j:=f.length;refine call_tuple_list g.isList (λz kp=>?_) (by simp only[ZC]<;>lia);have I1:=I.kept (t':=s.toks) kp;have I2:=
   I1.laid (t':=s.toks) (λb o e=>ZD _ e) (Zw _) (show dH X.prog X.w _ _ _ (.tup Z)from ⟨hz,c,f,IsTup.new _ _⟩)
  exact⟨.ref z.objs.size,_,I2,rfl,q _ (I1.hok.fresh (Zw _))⟩
 .obtain⟨c,f,g,hz⟩:=I.tuple d;exact call_tuple_same g ⟨.ref p,H,I,rfl,q⟩
def CK(K:Ψ)(T:String)(x:V)(H:Hp):Prop:=match x with
 |.str _=>T = "str"
 |.int _=>T = "int"
 |.ref p=>(T = "list" /\∃xs,fJ K H p xs)\/(T = "tuple" /\∃o,K.lookup p=some o/\o.cls=.type "tuple" /\o.dict=none)\/
   (T = "dict" /\((∃kvs,H p=some (.dK kvs))\/∃kvs,H p=some (.dT kvs)))\/(T = "set" /\∃S n,H p=some (.set S n))
 |_=>False
def CL{pins:Ω}{σ:St}{H:Hp}{s:Shared}{T:String}{x:V}{v:Value}(I:Inv X pins σ H s)(r:RelV x v)(ty:CK X.K T x H):
  s.TypeIs v T/\∀a,v=.ref a->∃ob,s.heap.get? a=some ob/\ob.dict=none:=by
 cases x with
 |str z=>
  obtain⟨t,rfl⟩:=r;cases (show T = "str" from ty);exact⟨typeIs_str s z t,λ_ e=>nomatch e⟩
 |int i=>
  obtain⟨t,rfl⟩:=r;cases (show T = "int" from ty);exact⟨abW s i t,λ_ e=>nomatch e⟩
 |ref p=>
  cases r;rcases ty with ⟨rfl,xs,l⟩|⟨rfl,o,d,q,f⟩|⟨rfl,d⟩|⟨rfl,S,n,d⟩
  .obtain⟨y,_,j,_⟩:=I.list l;refine⟨j.isList.typeIs,λa e=>?_⟩
   exists e
   obtain⟨o,n,e,c,f,_⟩:=j;exact⟨o,e,f⟩
  .refine⟨⟨o,I.lT p o d,q⟩,λa e=>?_⟩
   exists e
   exact⟨o,I.lT _ o d,f⟩
  .have z:∃o,s.heap.get? p=some o/\o.ExactDict:=by
    rcases d with ⟨g,d⟩|⟨g,d⟩
    .obtain⟨_,_,_,_,o,_,_,e,ex,_⟩:=I.hok p _ d;exact⟨o,e,ex⟩
    .obtain⟨_,_,_,_,o,_,_,e,ex,_⟩:=I.hok p _ d;exact⟨o,e,ex⟩
   obtain⟨o,e,ex⟩:=z;refine⟨⟨o,e,ex.1⟩,λa h=>?_⟩
   exists h
   exact⟨o,e,ex.2.1⟩
  .obtain⟨o,_,_,_,e,ex,_⟩:=I.hok p _ d;refine⟨⟨o,e,ex.1⟩,λa h=>?_⟩
   exists h
   exact⟨o,e,ex.2.1⟩
 |_=>exact False.elim ty
def VQ(K:Ψ)(T:String)(r:V->List V->Hp->VK->Prop)(z:TE):TE:=λσ H Q=>z σ H λx H1=>CK K T x H1/\r x [] H1 Q
def WU(K:Ψ)(T:String)(r:V->List V->Hp->VK->Prop)(z:TE)(t:TA):TE:=λσ H Q=>z σ H λx H1=>CK K T x H1/\t σ H1 λxs H2=>r x xs H2 Q
variable{o e:Expr}{es:Kj}{to:TE}{t:TA}{name:Str}{apos cpos:Pos}{T id:String}{r:V->List V->Hp->VK->Prop}
def MD(pa:PlainAttrs T)(slot:Slot T name id)(hty:typeOf (.builtin id)=pure (.type "method_descriptor"))(hm:uP X id r)(ho:PE X o to)(z:wE o name X.env:=by rfl)(Z:(apos.endLine==cpos.line)=true:=by rfl):PE X (.Call (.Attribute o name apos) [] [] cpos) (VQ X.K T r to):=by
 intro c s σ H Q I h;refine wpAny_Call_method0_late z Z (bI (ho c s σ H _ I h) λv s1 zr=>?_);obtain⟨x,H1,I1,d,ty,f⟩:=zr;obtain⟨g,i⟩:=CL I1 d ty;exact⟨T,id,pa,slot,hty,g,i,abm rfl (PySem.evalArgs_none (hm c s1 σ H1 x [] v [] Q I1 d .nil f))⟩
def RB(pa:PlainAttrs T)(slot:Slot T name id)(hty:typeOf (.builtin id)=pure (.type "method_descriptor"))(hm:uP X id r)(ho:PE X o to)(ha:PA X (e :: es) t)(Z:wE o name X.env:=by rfl)(hfew:((backTo cpos (starEach (e :: es) X.env)).all (λx=>!x.1)&&(backToKw cpos (keywordEach [] X.env)).all (λx=>x.1.isSome)
   &&decide ((e :: es).length+([]:List Keyword).length+(if ([]:List Keyword).isEmpty then 0 else 1)<30))=true:=by rfl)(hline:(apos.endLine==cpos.line)=true:=by rfl)(hs:q5 e es X.env:=by rfl)(z:q7 cpos es X.env:=by rfl):
  PE X (.Call (.Attribute o name apos) (e :: es) [] cpos) (WU X.K T r to t):=by
 intro c s σ H Q I h;refine abh Z hfew hline rfl (bI (ho c s σ H _ I h) λv s1 zr=>?_);obtain⟨x,H1,I1,d,ty,g⟩:=zr;obtain⟨i,j⟩:=CL I1 d ty;refine⟨T,id,pa,slot,hty,i,j,?_⟩;have f:=ha cpos c s1 σ H1 _ I1 g;rw[hs]at f ⊢;refine abm (by show(false || (backTo cpos (starEach es X.env)).any (·.1))=false;rw[z]<;>rfl) (abD ?_);exact bI f λl s2 ⟨p,H2,I2,q,y⟩=>hm c s2 σ H2 x p v l Q I2 d q y
end
def MF(X:Cx)(z:String)(r:V->List V->Hp->VK->Prop):Prop:=
 ∀(pins:Ω) (s:Shared) (σ:St) (H:Hp) (x:V) (xs:Ty) (v:Value) (us:W1) (Q:VK),Inv X pins σ H s->RelV x v->Vals xs us->r x xs H Q->
  wpAny (model X.prog X.w) X.A (call (.builtin z) (v :: us)) (EP X pins σ Q) X.xe s
def Vals.one:∀{x:V}{us:W1},Vals [x] us->∃u,us=[u]/\RelV x u
 |_,_,.cons r .nil=>⟨_,rfl,r⟩
def Vals.zero:∀{us:W1},Vals [] us->us=[]
 |_,.nil=>rfl
theorem Vals.dropLast(h:Vals xs us):Vals xs.dropLast us.dropLast:=by
 induction h with
 |nil=>exact .nil
 |cons r t a=>
  cases t with
  |nil=>exact .nil
  |cons q b=>exact .cons r a
theorem Vals.reverse{xs:Ty}{us:W1}(h:Vals xs us):Vals xs.reverse us.reverse:=by
 induction h with
 |nil=>exact .nil
 |cons r t a=>rw[Z0,Z0];exact Vals.append a (.cons r .nil)
theorem Vals.rep(h:Vals xs us):∀k:Nat,Vals (List.replicate k xs).flatten (List.replicate k us).flatten
 |0=>.nil
 |k+1=>by
  exact Vals.append h (Vals.rep h k)
def Bc{α:Type}(l:List α):l.eraseIdx (l.length - 1)=l.dropLast:=by
 induction l with
 |nil=>rfl
 |cons a r c=>
  cases r with
  |nil=>rfl
  |cons b r=>
   have e:(a :: b :: r).length - 1=((b :: r).length - 1)+1:=by
    have d:(a :: b :: r).length=r.length+2:=rfl;have f:(b :: r).length=r.length+1:=rfl;lia
   rw[e,List.eraseIdx_cons_succ,c];all_goals rfl
theorem foldl_rep(z:W1):∀(k:Nat) (I:W1),
  List.foldl (λx1 x2=>x1++x2) I.toArray (List.replicate k z.toArray)=(I++(List.replicate k z).flatten).toArray
 |0,I=>by simp
 |k+1,I=>by
  have e:I.toArray++z.toArray=(I++z).toArray:=by simp
  have a:(I++z)++(List.replicate k z).flatten=I++(List.replicate (k+1) z).flatten:=by
   rw[ZE,abT,ZV]
  rw[<-a,<-foldl_rep z k (I++z),<-e,ZE,aae]
section
variable{X:Cx}{pins:Ω}{σ:St}{H:Hp}{s:Shared}{l:Addr}{xs ys:Ty}
def Inv.E8{z its':W1}(I:Inv X pins σ H s)(Z:H l=some (.lst xs))(e:s.heap.get? l=some { cls:=.type "list",data:=.seq z.toArray n })(hf:f z.toArray=its'.toArray)(hv:Vals ys its')(hz:ys.length<=sizeLine):
  Inv X pins σ (upd H l (.lst ys)) { s with heap:=s.heap.update l (Obj.mapSeq f),toks:=t' }:=by
 have q:=PySem.IsL.update e f;rw[hf]at q;refine I.write (by rw[Z];exact trivial) (.inl rfl) (λc u a b=>(aaB s.heap (Obj.mapSeq f) (aav a)).trans b) ⟨_,q⟩ ?_;exact⟨hz,its',_,hv,q⟩
def Inv.E9(I:Inv X pins σ H s)(z:Vals ys its)(hz:ys.length<=sizeLine):
  Inv X pins σ (upd H s.heap.objs.size (.lst ys)) { s with heap:=s.heap.push { cls:=.type "list",data:=.seq its.toArray },toks:=t' }:=
 I.laid (λ_ _ q=>ZD _ q) (Zw _) ⟨hz,its,0,z,ZM _ rfl⟩
theorem Inv.fresh(I:Inv X pins σ H s):H s.heap.objs.size=none:=I.hok.fresh (Zw _)
def Inv.qt(I:Inv X pins σ H s)(hH:H l=some (.lst xs)):xs.length<=sizeLine/\∃(Z:W1) (n:Nat),Vals xs Z/\xs.length=Z.length/\s.heap.get? l=some { cls:=.type "list",data:=.seq Z.toArray n }:=by
 obtain⟨z,Z,n,r,e⟩:=I.hok l _ hH;exact⟨z,Z,n,r,r.length,e⟩
def wH(h:n<=sizeLine):Builtin.List.listTooLong n=false:=by
 exact ZG (by lia)
end
section
variable{X:Cx}
def JP:V->List V->Hp->VK->Prop:=λx a H Q=>∃l xs y,x=.ref l/\a=[y]/\H l=some (.lst xs)/\xs.length<sizeLine/\Q .aU (upd H l (.lst (xs++[y])))
def uQ:MF X "list.append" JP:=by
 intro b s σ H x vs v us Q I rx rv h;obtain⟨l,xs,y,rfl,rfl,c,hz,q⟩:=h;cases rx;obtain⟨u,rfl,d⟩:=rv.one;obtain⟨z,a,n,r,f,e⟩:=I.qt c;refine aaS F.slot_list_append ⟨_,e,rfl⟩ F.entry_list_append (F.args_list_append_2 _ _) (PySem.list_append l a.toArray n u (by rw[ZC];lia)) ⟨e,?_⟩;refine⟨.aU,_,I.E8 c e (by simp) (r.append (.cons d .nil)) ?_,rfl,q⟩;rw[Zx,ZS];lia
def JQ:V->List V->Hp->VK->Prop:=λx a H Q=>∃l b xs zs,x=.ref l/\a=[.ref b]/\H l=some (.lst xs)/\H b=some (.lst zs)/\xs.length+zs.length<=sizeLine/\Q .aU (upd H l (.lst (xs++zs)))
def CM:MF X "list.extend" JQ:=by
 intro f s σ H x vs v us Q I rx rv h;obtain⟨l,b,xs,A,rfl,rfl,g,i,hz,q⟩:=h;cases rx;obtain⟨u,rfl,j⟩:=rv.one;cases j;obtain⟨z,c,n,r,B,e⟩:=I.qt g;obtain⟨C,a,n2,o,p,y⟩:=I.qt i;have d:c.toArray.size+a.toArray.size<=sizeLine:=by rw[ZC,ZC];lia
 have Bd:¬ (!c.toArray.isEmpty&&Builtin.List.listTooLong (c.toArray.size+a.toArray.size))=true:=by
  rw[wH d,Bool.and_false];exact Z5
 refine aaS F.slot_list_extend ⟨_,e,rfl⟩ F.entry_list_extend (F.args_list_extend_2 _ _)
  (AutoSeq1.list_extend_list_list_0 l c.toArray n b a.toArray n2 Bd (by lia) (by lia)) ⟨e,y,?_⟩
 refine⟨.aU,_,I.E8 g e (by simp) (r.append o) ?_,rfl,q⟩;rw[Zx];lia
def VR:V->List V->Hp->VK->Prop:=λx a H Q=>∃l xs y,x=.ref l/\a=[]/\H l=some (.lst xs)/\xs[xs.length - 1]?=some y/\Q y (upd H l (.lst xs.dropLast))
def MG:MF X "list.pop" VR:=by
 intro c s σ H x vs v us Q I rx rv h;obtain⟨l,xs,y,rfl,rfl,d,f,q⟩:=h;cases rx;have WV:=rv.zero;subst WV;obtain⟨z,a,n,r,g,e⟩:=I.qt d;obtain⟨u,i,j⟩:=r.get f;have b:a.toArray[a.toArray.size - 1]?=some u:=by
  show a.toArray[a.length - 1]?=some u;rw[<-acr,<-g];exact i
 refine aaS F.slot_list_pop ⟨_,e,rfl⟩ F.entry_list_pop (F.args_list_pop_1 _) (MeetsSeq.list_pop_last l a.toArray n u b (by rw[ZC];lia)) ⟨e,?_⟩;refine⟨y,_,I.E8 (its':=a.dropLast) d e ?_ r.dropLast ?_,j,q⟩
 .show a.toArray.eraseIdxIfInBounds (a.toArray.size - 1)=a.dropLast.toArray;rw[ZC,List.eraseIdxIfInBounds_toArray,Bc]
 .rw[List.length_dropLast];lia
def VS:R2:=λx y H Q=>∃l b xs zs,x=.ref l/\y=.ref b/\H l=some (.lst xs)/\H b=some (.lst zs)/\xs.length+zs.length<=sizeLine/\∀p,H p=none->Q (.ref p) (upd H p (.lst (xs++zs)))
def MH:dJ X (binaryOp .Add) VS:=by
 intro d s σ H x y v u Q I rx ry h;obtain⟨l,b,xs,A,rfl,rfl,f,g,hz,q⟩:=h;cases rx;cases ry;obtain⟨z,c,n,r,B,e⟩:=I.qt f;obtain⟨C,a,n2,i,j,o⟩:=I.qt g;refine PySem.P.add_list e o ?_ (by rw[ZC,ZC];lia);have p:c.toArray++a.toArray=(c++a).toArray:=by simp
 rw[p];exact⟨.ref _,_,I.E9 (r.append i) (by rw[Zx];lia),rfl,q _ I.fresh⟩
def VT:R2:=λx y H Q=>∃l k xs,x=.ref l/\y=.int k/\H l=some (.lst xs)/\-(2 ^ 63)<=k/\k<2 ^ 63/\xs.length*k.toNat<=sizeLine/\
 ∀p,H p=none->Q (.ref p) (upd H p (.lst (List.replicate k.toNat xs).flatten))
def len_rep{α:Type}(xs:List α)(k:Nat):(List.replicate k xs).flatten.length=k*xs.length:=by
 induction k with
 |zero=>simp
 |succ k a=>rw[ZE,abT,Zx,a,Nat.succ_mul,aaZ]
def MI:dJ X (binaryOp .Mult) VT:=by
 intro o s σ H x y v u Q I rx ry h;obtain⟨l,k,xs,rfl,rfl,p,A,B,hz,q⟩:=h;cases rx;obtain⟨t,rfl⟩:=ry;obtain⟨z,b,n,r,C,e⟩:=I.qt p;have c:b.toArray.size*k.toNat<=sizeLine:=by rw[ZC,<-C];exact hz
 have d:¬ b.toArray.size*k.toNat > (2 ^ 63 - 1) / 8:=by
  have:(sizeLine:Nat)<=(2 ^ 63 - 1) / 8:=by decide
  lia
 have f:¬ (!Builtin.List.listFitsIndex k)=true:=by
  rw[fitsIndex_both A B];exact Z5
 have Bd:¬ Builtin.List.listTooLong (b.toArray.size*k.toNat)=true:=by
  rw[wH c];exact Z5
 have g:List.foldl (λi j=>i++j) #[] (List.replicate (if b.toArray.isEmpty=true then 0 else k.toNat) b.toArray)=(List.replicate k.toNat b).flatten.toArray:=by
  have f0:∀m:Nat,List.foldl (λi j=>i++j) #[] (List.replicate m b.toArray)=(List.replicate m b).flatten.toArray:=λm=>by
   have:=foldl_rep b m [];rw[aaH]at this;exact this
  rw[f0];cases b with
  |nil=>simp
  |cons a J=>rw[Yl (by simp)]
 refine abX (T:="list") (U:="int") (by decide) ⟨_,e,rfl⟩ (λG=>abW G k t) noFill_list_mul F.fills_int_mul F.slot_int_rmul repeat_list F.slot_int_index.lookup
  (aaS F.slot_int_rmul (abW s k t) F.entry_int_rmul (F.args_int_rmul_2 _ _) (int___rmul___int_list k t l b.toArray n)
   ⟨e,rfl,⟨_,e,rfl⟩,aaS F.slot_list_mul ⟨_,e,rfl⟩ F.entry_list_mul (F.args_list_mul_2 _ _) (AutoListH.list___mul___list_int_3 l b.toArray n k t f d Bd) ⟨e,?_⟩⟩)
 rw[g];exact⟨.ref _,_,I.E9 (t':=s.toks) (r.rep k.toNat) (by rw[len_rep,Nat.mul_comm];exact hz),rfl,q _ I.fresh⟩
end
end L2
namespace Tf
open PySem PySem.W PySem.Calls PyProof.Rows
def q8:∀(ns:Kk) (vs:W1),WellAll P h vs (ns.map WData.int)->IntsAre vs ns:=by
 intro ns;induction ns with
 |nil=>
  intro vs w;cases w;exact .nil
 |cons n ns c=>
  intro vs w;cases w with
  |cons a b=>
   cases a;exact .cons _ _ (c _ b)
def CN{l:OpenLaw}(hn:l.most=some n)(I:l.row.toRowW.claim.pre args=true)(Z:WellAll P h vals args):
  ∃a vs ns,vals=[Value.ref a]/\args=[WData.list (ns.map WData.int)]/\h.get? a=some { cls:=.type "list",data:=.seq vs.toArray }/\IntsAre vs ns/\ns.length<=n:=by
 have f:=(pre_splitW I).1;have i:=(pre_splitW I).2;obtain⟨d,r,rfl,j,o⟩:=hasAllW_cons f;obtain rfl:=hasAllW_nil o;obtain⟨xs,rfl,p⟩:=hasW_list j;obtain⟨ns,rfl⟩:=items_int p;have b:ns.length<=n:=by
  have e:(WTm.not (.lt (.lit (.int n)) (.len (.arg 0)))).holds [] { args:=[.list (ns.map .int)]}=true:=by
   have e:=(holds_andW i).1;rw[hn]at e;exact e
  have g:=condW_of e (w_not (w_lt w_lit (w_len_list (w_arg rfl))));refine Nat.le_of_not_lt λq=>?_;first
   | (exact absurd g (by decide))
   | (simp at g;lia)
 cases Z with
 |cons y z=>
  cases z;cases y with
  |list A c=>exact⟨_,_,ns,rfl,rfl,A,q8 ns _ c,b⟩
def CO(l:OpenLaw)(args:List WData):l.row.toRowW.claim.post args (.bool true) args=true:=
 postW_of
  (show WShape.has [] (.bool true) .bool=true by first|rfl|decide|simp[WShape.has,WShape.arms,WShape.armsAll])
  (show(WTm.eq .res (.lit (.bool true))).value [] { args:=args,res:=some (.bool true),after:=args }=some (.bool (true==true))from w_eq_bool (w_res rfl) w_lit) rfl
def yY{l:OpenLaw}(hn:l.most=some n)(hdf:d.params.defaults=[])(call:∀(w:World) (s₀ Z:Shared) (mg mb:Kx) (fa:Addr) (o:Obj) (pm cd doc:Value) (a:Addr) (vs:W1) (ns:Kk),
   Ground q loose [] XP w s₀ mg mb Z.heap->YP w Z.heap->
   Z.heap.get? fa=some o->o.data=.func (docDef d.name d.params d.body d.scope pm cd doc)->Z.heap.CodeRec cd d.name->mg d.name=some (.ref fa)->
   Z.heap.get? a=some { cls:=.type "list",data:=.seq vs.toArray }->IntsAre vs ns->ns.length<=n->Z.gens = #[]->
   codeAny (model l.prog w) callerA (.call (.ref fa) ⟨[.ref a],[]⟩) (λr s'=>r=.ok (.ret (.bool true))/\OldK Z.heap s'.heap/\s'.os=Z.os/\AllBare s'.gens) Z):
  WalkO q loose XP YP l.row.toRowW d [] (λf vs=>PySem.call f vs):=by
 intro w s₀ Z mg mb G Y fa o pm cd doc A kV B C h p i F args y P c z H j I;obtain rfl:A=.none:=Dflts.none p hdf;obtain rfl:kV=.none:=Dflts.noKw p;obtain⟨a,vs,ns,rfl,rfl,e,b,g⟩:=CN hn c j;refine enter_call (aa6 (call w s₀ Z mg mb fa o pm cd doc a vs ns G Y B (fd_plain C) h i e b g F) λr s' J=>?_);obtain⟨rfl,K,L,M⟩:=J;exact⟨.inl ⟨.bool true,.bool true,[],rfl,λ_=>rfl,.bool true,CO l _,λ_=>⟨List.Pairwise.nil,λ_ N=>(nomatch N)⟩⟩,K,L,M⟩
end Tf
namespace L2
open PySem PySem.Spec PyProof.Rows
theorem uR:∀{vs:W1}{ns:Kk},IntsAre vs ns->Vals (ns.map V.int) vs
 |_,_,.nil=>.nil
 |_,_,.cons n t h=>.cons ⟨t,rfl⟩ (uR h)
def tS(H:Hp):Prop:=∀b,H b=none\/∃o xs,H b=some (.bQ o (.lst xs))
def Fb{P:Program}{w:World}{K:Ψ}{mg mb:Kx}{CX:lV}{k:Nat}{fa a:Addr}{fd:FuncData}{x:Str}{sp:Sp}{Z:Shared}{vs:W1}{ns:Kk}(KX:K.In Z.heap)(hns:Z.heap.Ns mainGlobals mg)(hb:Z.heap.Ns builtinsNs mb)(MJ:∀x:Str,x≠"__name__" ->mb x=bootBuiltins x)(hlim:Z.heap.NoLimit)(hg:Z.gens = #[])(ha:Z.heap.get? a=some { cls:=.type "list",data:=.seq vs.toArray })(hi:IntsAre vs ns)(hl:ns.length<=sizeLine)(hr:fL k callerA)(F:∀base:Heap,K.In base->base.Ns mainGlobals mg->fc P w K mg base CX k fa fd [x] sp)(hbind:∀(s:Shared) (u:Value),BindsTo s fd ⟨[u],[]⟩ [(x,u)])(iS:∀H:Hp,tS H->fJ K H a (ns.map V.int)->sp [.ref a] H (λv _=>v=.bl true) λ_ _ _=>False)(CP:∀H e s',CX [] H Z (λ_ _ _=>False) e s'->False):
  codeAny (model P w) callerA (.call (.ref fa) ⟨[.ref a],[]⟩) (λr s'=>r=.ok (.ret (.bool true))/\OldK Z.heap s'.heap/\s'.os=Z.os/\AllBare s'.gens) Z:=by
 have rv:=uR hi;have VU:=hi.length;have c:∀H:Hp,tS H->fJ K H a (ns.map V.int)->dS P w H Z.heap->(∀b,H b≠none->b=a)->(H a≠none->K.lookup a=none)->
   codeAny (model P w) callerA (.call (.ref fa) ⟨[.ref a],[]⟩) (λr s'=>r=.ok (.ret (.bool true))/\OldK Z.heap s'.heap/\s'.os=Z.os/\AllBare s'.gens) Z:=by
  intro H j A f l B;have p:∀{b:Addr} {o:Obj},Z.heap.get? b=some o->H b=none->(mK Z.heap H).get? b=some o:=λe n=>ET e n;have CG:∀{b:Addr} {o:Obj} {es:Array DictEntry} {ep:Nat},Z.heap.get? b=some o->o.data=.dict es ep->H b=none:=λ{b o es ep} e d=>by
   cases q:H b with
   |none=>rfl
   |some u=>
    have i:b=a:=l b (by rw[q];simp);subst i;rw[ha]at e;exists e;have C:Data.seq vs.toArray _=Data.dict es ep:=d
    exists C
  have HK:∀{b:Addr} {m:Kx},Z.heap.Ns b m->(mK Z.heap H).Ns b m:=λ{b m} ⟨o,es,ep,e,d,r⟩=>⟨o,es,ep,p e (CG e d),d,r⟩
  have Tg:K.In (mK Z.heap H):=λb o e=>p (KX b o e) (by
   cases q:H b with
   |none=>rfl
   |some u=>
    have i:b=a:=l b (by rw[q];simp);subst i;rw[B (by rw[q];simp)]at e;exists e)
  have G:Mod K mg (mK Z.heap H):=⟨Tg,HK hns,⟨mb,HK hb,MJ⟩,let ⟨mc,h1,h2⟩:=hlim;⟨mc,HK h1,h2⟩⟩
  have I:A9 P w K mg (mK Z.heap H) callerA [] Z H:=⟨rfl,G,λb o e=>Jr e,Nat.le_of_eq (Ct _ _),trivial,λb hb=>absurd (show b∈([]:Y2)from hb) (by simp),f,.of_eq hg⟩
  refine aa6 ((F _ Tg (HK hns)).run callerA [] Z H ⟨[.ref a],[]⟩ [.ref a] [.ref a] _ _ hr I (hbind Z (.ref a)) (.cons rfl .nil) (iS H j A)) λr s' h=>?_;cases r with
  |error e=>exact(CP H e s' h).elim
  |ok fl=>
   cases fl with
   |next=>exact False.elim h
   |brk=>exact False.elim h
   |cont=>exact False.elim h
   |ret u=>
    obtain⟨v,H',os,bare,un,VV,J,q⟩:=h;have L:v=.bl true:=q;subst L;obtain rfl:u=Value.bool true:=J;refine⟨rfl,OldK.of_keep λb o e=>?_,os,bare⟩;cases q:H b with
    |none=>exact un.keep b o e q (by intro z;exact absurd (show b∈([]:Y2)from z) (by simp)) (by simp)
    |some u=>
     rcases j b with z|⟨M,xs,z⟩
     .rw[q]at z;exists z
     .have N:=un.kr b M _ z;obtain⟨y,_⟩:=f b _ z;obtain⟨Q,_⟩:=VV b _ N;rw[e]at y;exists y;exact Q
 cases hk:K.lookup a with
 |some o=>
  have e:=KX a o hk;rw[ha]at e
  exists e
  refine c (λ_=>none) (λ_=>.inl rfl) (.inr ⟨_,vs.toArray,_,hk,rfl,rfl,rfl,by rw[ZC,VU];exact hl,by simpa using rv⟩) (λb u z=>by have g:(none:Option HO)=some u:=z;exists g) (λb z=>absurd rfl z) λz=>absurd rfl z
 |none=>
  refine c (λb=>if b=a then some (.bQ { cls:=.type "list",data:=.seq vs.toArray } (.lst (ns.map V.int)))else none) (λb=>?_) (.inl (.inr ⟨{ cls:=.type "list",data:=.seq vs.toArray },gV rfl⟩)) (λb u z=>?_) (λb z=>?_) λ_=>hk
  .by_cases hb:b=a
   .exact .inr ⟨_,_,gV hb⟩
   .exact .inl (Yl hb)
  .by_cases hb:b=a
   .have g:=(gV hb).symm.trans z;cases g;subst hb;exact⟨ha,by rw[ZF];exact hl,vs,_,rv,ha⟩
   .have g:=(Yl hb).symm.trans z
    exists g
  .by_cases hb:b=a
   .exact hb
   .exact absurd (Yl hb) z
def JR{l:W.OpenLaw}{n k:Nat}{q:Program}{Z:Y1}{XP:Kx->Heap->Prop}{YP:World->Heap->Prop}{d:DefRec}{K:Params->Ψ}{CX:World->lV}{sp:World->Sp}{x:Str}(hn:l.most=some n)(hn2:n<=sizeLine)(hdf:d.params.defaults=[])(hr:fL k callerA)(hY:∀(w:World) (h:Heap),YP w h->(K w.params).In h)(F:∀(w:World) (mg:Kx) (fa:Addr) (h:Heap),(K w.params).In h->h.Ns mainGlobals mg->mg d.name=some (.ref fa)->
   ∃fd:FuncData,(∀(s:Shared) (u:Value),BindsTo s fd ⟨[u],[]⟩ [(x,u)])/\
    ∀base:Heap,(K w.params).In base->base.Ns mainGlobals mg->fc l.prog w (K w.params) mg base (CX w) k fa fd [x] (sp w))(iS:∀(w:World) (H:Hp) (a:Addr) (ns:Kk),ns.length<=n->tS H->fJ (K w.params) H a (ns.map V.int)->sp w [.ref a] H (λv _=>v=.bl true) λ_ _ _=>False)(CP:∀(w:World) (H:Hp) (s:Shared) (e:Value) (s':Shared),CX w [] H s (λ_ _ _=>False) e s'->False):
  W.WalkO q Z XP YP l.row.toRowW d [] (λf vs=>PySem.call f vs):=by
 refine Tf.yY hn hdf λw J r mg L fa o M N y a vs ns G Y P Q z p j i c A=>?_;have KX:=hY w _ Y;obtain⟨fd,B,hF⟩:=F w mg fa _ KX G.T.g p;exact Fb KX G.T.g G.T.b G.T.builtins G.T.nolimit A j i (ZL c hn2) hr hF B (λH C I=>iS w H a ns c C I) λH e s'=>CP w H r e s'
def Fc{l:W.OpenLaw}{n k:Nat}{q:Program}{z:Y1}{XP:Kx->Heap->Prop}{YP:World->Heap->Prop}{d:DefRec}{K:Params->Ψ}{CX:lV}{sp:W.Frag->Sp}{x:Str}(hn:l.most=some n)(I:n<=sizeLine)(Z:d.params.defaults=[])(hr:fL k callerA)(hY:∀(w:World) (h:Heap),YP w h->(K w.params).In h)(F:∀(w:World) (mg:Kx) (fa:Addr) (h:Heap),(K w.params).In h->h.Ns mainGlobals mg->mg d.name=some (.ref fa)->
   ∃fd:FuncData,(∀(s:Shared) (u:Value),BindsTo s fd ⟨[u],[]⟩ [(x,u)])/\
    ∀base:Heap,(K w.params).In base->base.Ns mainGlobals mg->fc l.prog w (K w.params) mg base CX k fa fd [x] (sp (K w.params)))(iS:∀(K:Ψ) (H:Hp) (a:Addr) (ns:Kk),ns.length<=n->tS H->fJ K H a (ns.map V.int)->sp K [.ref a] H (λv _=>v=.bl true) λ_ _ _=>False)(CP:∀(H:Hp) (s:Shared) (e:Value) (s':Shared),CX [] H s (λ_ _ _=>False) e s'->False):
  W.WalkO q z XP YP l.row.toRowW d [] (λf vs=>PySem.call f vs):=
 JR (K:=K) (CX:=λ_=>CX) (sp:=λw=>sp (K w.params)) hn I Z hr hY F (λw H a ns b c g=>iS (K w.params) H a ns b c g) λ_ H s e s'=>CP H s e s'
def o9(s:Stmt):Arguments:=match s with
 |.FunctionDef _ a _ _ _ _ _ _ _ _=>a
 |_=>{ posonlyargs:=[],args:=[],vararg:=none,kwonlyargs:=[],kw_defaults:=[],kwarg:=none,defaults:=[]}
def eO(s:Stmt):List Stmt:=match s with
 |.FunctionDef _ _ b _ _ _ _ _ _ _=>b
 |_=>[]
def aI(s:Stmt):Scope:=match s with
 |.FunctionDef _ _ _ _ _ _ sc _ _ _=>sc
 |_=>{ kind:=.function,names:=[],isGenerator:=false,isCoroutine:=false }
abbrev lW:lV:=λ_ _ _ _ _ _=>False
abbrev E0:XK:=λ_ _ _=>False
def RC:Passes lW X E0:=λ_ _ _ _ _ _ _ h=>h.elim
structure q9(K:Ψ)(x qual:Str)(st:Stmt)(f:Addr)(fd:FuncData):Prop where
 ex:∃(oc:Value) (od:Option Addr) (kV doc pm:Value) (an:Option Addr) (cdv ct:Value) (osl:Array (Option Value)),
  fd=W.fnOf x qual (o9 st) (eO st) (aI st) .none kV doc pm an cdv ct/\K.lookup f=some ⟨oc,od,.func fd,osl⟩/\W.codeIn K cdv qual=true
 kp:W.keepIn K (.ref f)=true
section
variable{P:Program}{w:World}{K:Ψ}{mg:Kx}{base:Heap}
def q9.ok{x qual:Str}{st:Stmt}{f:Addr}{fd:FuncData}{N ps:Y1}{k:Nat}{sp:Sp}(F:q9 K x qual st f fd)(S:bE N ps (aI st))(len:∀vs H Q E,sp vs H Q E->vs.length=ps.length)(z:∀(cdv:Value) (A:Around) (outer:List Env) (s:Shared) (H:Hp) (vs:Ty) (Q:VK) (E:XK),fL k (A.deeper (envOfC qual (aI st) s.heap.objs.size f cdv))->sp vs H Q E->
   ∃t,gm (ly lW P w K mg base N qual (aI st) f cdv A outer s H E).iR (eO st) t/\t { nx:=λ_ H'=>Q .aU H',rt:=Q } (start N vs) H):fc P w K mg base lW (k+1) f fd ps sp:=by
 obtain⟨i,j,kV,b,l,o,cdv,p,c,rfl,d,a⟩:=F.ex;refine HJ d a S len λA outer s H vs Q E e g=>?_;obtain⟨t,h,q⟩:=z cdv A outer s H vs Q E e g;exact⟨t,h.iR,q⟩
def q9.binds{st:Stmt}(F:q9 K x qual st f fd)(h:∀(kV doc pm:Value) (an:Option Addr) (cdv ct:Value) (us:W1),us.length=ps.length->bindArgs (W.fnOf x qual (o9 st) (eO st) (aI st) .none kV doc pm an cdv ct) ⟨us,[]⟩=pure (ps.zip us)):Binds K fd ps []:=by
 obtain⟨c,d,kV,doc,pm,an,cdv,ct,a,rfl,e,b⟩:=F.ex;exact .all (h kV doc pm an cdv ct)
def cy{st:Stmt}{kV doc pm cdv ct:Value}(l:K.lookup f=some ⟨oc,od,.func (W.fnOf x qual (o9 st) (eO st) (aI st) .none kV doc pm an cdv ct),osl⟩)(c:W.codeIn K cdv qual=true)(k:W.keepIn K (.ref f)=true):q9 K x qual st f (W.fnOf x qual (o9 st) (eO st) (aI st) .none kV doc pm an cdv ct):=⟨⟨oc,od,kV,doc,pm,an,cdv,ct,osl,rfl,l,c⟩,k⟩
end
def Be(hr:fL k A):A.units+1<cLine:=aba (Nat.add_le_add_left (by decide) _) hr.units
section
variable{X:Cx}
def pv(i:Nat){x:Str}{z:Pos}(Z:X.N[i]?=some x:=by rfl)(hv:zk X.env.scope x:=by first|exact Or.inl rfl|exact Or.inr (Or.inl rfl)|exact Or.inr (Or.inr rfl))(hd:(x==("__debug__":Str))=false:=by decide)(I:(x==("__classdict__":Str))=false:=by decide):PE X (.Name x z) (LZ i):=wo Z hv hd I
end
section
variable{κ:Type}[DecidableEq κ]
def jr(kvs:List (κ×V))(k:κ):Option V:=(kvs.find? λa=>decide (a.1=k)).map (·.2)
def putK(kvs:List (κ×V))(k:κ)(v:V):List (κ×V):=
 if (kvs.any λa=>decide (a.1=k))=true then kvs.map (λa=>if a.1=k then (a.1,v)else a)else kvs++[(k,v)]
def qu{p:κ×V}{r:List (κ×V)}{k:κ}(e:p.1=k):jr (p :: r) k=some p.2:=by simp[jr,aal,e]
def qv{p:κ×V}{r:List (κ×V)}{k:κ}(e:¬ p.1=k):jr (p :: r) k=jr r k:=by simp[jr,aal,e]
theorem wI(k:κ):∀kvs:List (κ×V),(kvs.any λkv=>decide (kv.1=k))=(jr kvs k).isSome
 |[]=>rfl
 |p :: r=>by
  rw[abO];by_cases e:p.1=k
  .simp only[qu e,ZO e,Bool.true_or,aaV]
  .rw[qv e,ZG e,Bool.false_or];exact wI k r
def lD(kvs:List (κ×V))(k:κ)(v:V):(putK kvs k v).length<=kvs.length+1:=by
 unfold putK;split
 .rw[ZF];lia
 .rw[Zx,ZH,aaI];lia
def jY.CQ(r:jY o u):o.isSome=u.isSome:=by
 cases o with
 |none=>cases u with
  |none=>rfl
  |some _=>exact(show False from r).elim
 |some _=>cases u with
  |none=>exact(show False from r).elim
  |some _=>rfl
theorem jY.getD(r:jY o u)(z:RelV d I):RelV (o.getD d) (u.getD I):=by
 cases o with
 |none=>cases u with
  |none=>exact z
  |some _=>exact(show False from r).elim
 |some _=>cases u with
  |none=>exact(show False from r).elim
  |some _=>exact r
def KV.val{kvs:List (κ×V)}{vs:List (κ×Value)}(r:KV kvs vs)(k:κ):jY (jr kvs k) (valueAt vs k):=by
 unfold KV at r;induction r with
 |nil=>exact True.intro
 |@cons p q ps a h t f=>
  obtain⟨d,g⟩:=h;by_cases e:p.1=k
  .have c:q.1=k:=d.symm.trans e;have b:valueAt (q :: a) k=some q.2:=by simp[valueAt,aal,c]
   rw[qu e,b];exact g
  .have c:¬ q.1=k:=λz=>e (d.trans z);have b:valueAt (q :: a) k=valueAt a k:=by simp[valueAt,aal,c]
   rw[qv e,b];exact f
theorem KV.any{kvs:List (κ×V)}{vs:List (κ×Value)}(r:KV kvs vs)(k:κ):(kvs.any λkv=>decide (kv.1=k))=vs.any λkv=>decide (kv.1=k):=by
 unfold KV at r;induction r with
 |nil=>rfl
 |cons h t a=>rw[abO,abO,a,h.1]
def KV.repl{kvs:List (κ×V)}{vs:List (κ×Value)}(r:KV kvs vs)(k:κ){y:V}{u:Value}(I:RelV y u):
  KV (kvs.map λkv=>if kv.1=k then (kv.1,y)else kv) (vs.map λkv=>if kv.1=k then (kv.1,u)else kv):=by
 unfold KV at r ⊢;induction r with
 |nil=>exact .nil
 |@cons p q ps d h t b=>
  rw[WL,WL];refine .cons ?_ b;obtain⟨a,c⟩:=h;by_cases e:p.1=k
  .rw[gV e,gV (a.symm.trans e)];exact⟨a,I⟩
  .rw[Yl e,Yl (λz=>e (a.trans z))];exact⟨a,c⟩
def KV.put{kvs:List (κ×V)}{vs:List (κ×Value)}(r:KV kvs vs)(k:κ){y:V}{u:Value}(z:RelV y u):KV (putK kvs k y) (stored vs k u):=by
 unfold putK stored;rw[r.any k];by_cases e:(vs.any λa=>decide (a.1=k))=true
 .rw[gV e,gV e];exact r.repl k z
 .rw[Yl e,Yl e];exact Paired.snoc r ⟨rfl,z⟩
theorem KV.length{kvs:List (κ×V)}{vs:List (κ×Value)}(r:KV kvs vs):kvs.length=vs.length:=abM r
end
def vR(r:RelV (kV k) u):(bq P w).is k u=true:=by
 cases k with
 |inl i=>obtain⟨t,e⟩:=(show ∃t,u=Value.int i t from r);subst e;exact yW P w i t
 |inr x=>obtain⟨t,e⟩:=(show ∃t,u=Value.str x t from r);subst e;exact yX P w x t
theorem uS:∀{ks:List Key}{us:W1},Vals (ks.map kV) us->ItemsAre (bq P w) ks us
 |[],_,r=>by cases r;exact .nil
 |k :: ks,_,r=>by
  cases r with
  |cons h t=>exact .cons (vR h) (uS t)
abbrev KT(H:Hp):List (List Key×V)->List (List Key×Addr×Value)->Prop:=Paired λp q=>p.1=q.1/\H q.2.1=some (.tup (p.1.map kV))/\RelV p.2 q.2.2
def KT.val{H:Hp}{kvs:List (List Key×V)}{xs:List (List Key×Addr×Value)}(r:KT H kvs xs)(k:List Key):jY (jr kvs k) ((atKey xs k).map (·.2)):=by
 induction r with
 |nil=>exact True.intro
 |@cons p q ps a h t f=>
  obtain⟨d,_,g⟩:=h;by_cases e:p.1=k
  .have c:q.1=k:=d.symm.trans e;have b:atKey (q :: a) k=some q.2:=by simp[atKey,aal,c]
   rw[qu e,b];exact g
  .have c:¬ q.1=k:=λz=>e (d.trans z);have b:atKey (q :: a) k=atKey a k:=by simp[atKey,aal,c]
   rw[qv e,b];exact f
def KT.repl(r:KT H kvs xs)(k:List Key)(I:RelV y u):
  KT H (kvs.map λkv=>if kv.1=k then (kv.1,y)else kv) (xs.map (putAt k u)):=by
 induction r with
 |nil=>exact .nil
 |@cons p q ps f h t c=>
  rw[WL,WL];refine .cons ?_ c;obtain⟨a,b,d⟩:=h;unfold putAt;by_cases e:p.1=k
  .rw[gV e,gV (a.symm.trans e)];exact⟨a,b,I⟩
  .rw[Yl e,Yl (λz=>e (a.trans z))];exact⟨a,b,d⟩
def KT.put(r:KT H kvs xs)(k:List Key)(I:H b=some (.tup (k.map kV)))(z:RelV y u):
  KT H (putK kvs k y) (storedH xs k b u):=by
 have e:(kvs.any λa=>decide (a.1=k))=(atKey xs k).isSome:=by
  rw[wI,(r.val k).CQ,Option.isSome_map]
 unfold putK storedH;rw[e];by_cases q:(atKey xs k).isSome=true
 .rw[gV q,gV q];exact r.repl k z
 .rw[Yl q,Yl q];exact Paired.snoc r ⟨rfl,I,z⟩
def KT.keeps(r:KT H kvs xs)(Z:∀b I,H b=some (.tup I)->H' b=some (.tup I)):KT H' kvs xs:=
 Paired.ES r λ_ _ z=>⟨z.1,Z _ _ z.2.1,z.2.2⟩
section
variable{P:Program}{w:World}{H:Hp}{h:Heap}{a:Addr}
def HL(ok:dS P w H h)(e:Rd H a u):dH P w H h a u:=e.ok ok
def rj(ok:dS P w H h)(e:Rd H a (.dK kvs)):kvs.length<=sizeLine/\(a==sysModules)=false/\∃vs,KV kvs vs/\h.DictOf (bq P w) a vs:=
 show dH P w H h a (.dK kvs)from HL ok e
def vS(ok:dS P w H h)(e:H a=some (.dK kvs)):kvs.length<=sizeLine/\(a==sysModules)=false/\∃vs,KV kvs vs/\h.DictOf (bq P w) a vs:=rj ok (.inl e)
def rq(ok:dS P w H h)(e:H a=some (.tup (ks.map kV))):(tupleKind (bq P w)).is h ks a:=by
 obtain⟨_,b,r,o,c,d,n,f⟩:=(show dH P w H h a (.tup (ks.map kV))from ok a _ e)
 exact⟨o,b.toArray,n,c,d,f,by simpa using uS r⟩
def rA(ok:dS P w H h)(e:Rd H a (.dT kvs)):kvs.length<=sizeLine/\(a==sysModules)=false/\
  ∃xs,KT H kvs xs/\h.DictOfH (tupleKind (bq P w)) a xs:=by
 obtain⟨z,y,xs,r,o,d,f,g,i,j,A,B⟩:=(show dH P w H h a (.dT kvs)from HL ok e)
 refine⟨z,y,xs,r,o,d,f,g,i,j,A,λx b=>?_,B⟩;have all:∀{l:List (List Key×V)} {m:List (List Key×Addr×Value)},KT H l m->∀x∈m,(tupleKind (bq P w)).is h x.1 x.2.1:=by
  intro l m q;induction q with
  |nil=>intro x b;exact nomatch b
  |@cons p q ps F c t C=>
   intro x b;rcases qE b with e|b
   .subst e;exact rq ok (by rw[<-c.1];exact c.2.1)
   .exact C x b
 exact all r x b
def RD(ok:dS P w H h)(e:H a=some (.dT kvs)):kvs.length<=sizeLine/\(a==sysModules)=false/\
  ∃xs,KT H kvs xs/\h.DictOfH (tupleKind (bq P w)) a xs:=rA ok (.inl e)
end
def mQ(H:Hp)(a:Addr)(y:V)(r:Option V):Prop:=
 (∃kvs k,Rd H a (.dK kvs)/\y=kV k/\r=jr kvs k)\/∃kvs k b,Rd H a (.dT kvs)/\y=.ref b/\H b=some (.tup (k.map kV))/\r=jr kvs k
def wJ(H:Hp)(a:Addr)(y v:V)(H':Hp):Prop:=
 (∃kvs k,H a=some (.dK kvs)/\y=kV k/\kvs.length<sizeLine/\H'=upd H a (.dK (putK kvs k v)))\/
 ∃kvs k b,H a=some (.dT kvs)/\y=.ref b/\H b=some (.tup (k.map kV))/\kvs.length<sizeLine/\H'=upd H a (.dT (putK kvs k v))
theorem mQ.k{k:Key}(e:H a=some (.dK kvs)):mQ H a (kV k) (jr kvs k):=.inl ⟨kvs,k,.inl e,rfl,rfl⟩
theorem wJ.k{k:Key}(e:H a=some (.dK kvs))(z:kvs.length<sizeLine):wJ H a (kV k) v (upd H a (.dK (putK kvs k v))):=.inl ⟨kvs,k,e,rfl,z,rfl⟩
section
variable{X:Cx}{pins:Ω}{σ:St}{H:Hp}{s:Shared}{a:Addr}{y v:V}{u r:Value}{A:Around}{E:Φ}
def Inv.big(I:Inv X pins σ H s):sysModules<s.heap.objs.size:=by
 have h:=(I.mod.glob.keeps I.bk).lt;exact Nat.lt_trans (by decide) h
def CS(hu:A.units+1<cLine)(I:Inv X pins σ H s)(g:mQ H a y (some v))(Z:RelV y u)(h:∀w' s',Inv X pins σ H s'->RelV v w'->Q w' s'):
  wpAny (model X.prog X.w) A (getItem (.ref a) u) Q E s:=by
 rcases g with ⟨f,k,e,i,l⟩|⟨f,k,b,e,i,q,l⟩
 .subst i;obtain⟨z,B,F,c,dd⟩:=rj I.hok e;obtain⟨w',j,d⟩:=jY.some_of (by rw[l];exact c.val k);exact wpAny_getItem_of (vR Z) dd.mapOf j (h w' _ (I.tok _) d)
 .subst i;cases (show u=Value.ref b from Z);obtain⟨z,B,xs,c,dd⟩:=rA I.hok e;obtain⟨w',j,d⟩:=jY.some_of (by rw[l];exact c.val k);obtain⟨p,C,o⟩:=kA j;refine wpAny_getItem_heap (abJ hu) (rq I.hok q) dd C ?_;rw[o];exact h w' _ (I.tok _) d
def tT(I:Inv X pins σ H s)(Z:Cs (H a))(hs:Heap.SameBut a s.heap h')(he:∃q,h'.get? a=some q)(new:dH X.prog X.w (upd H a ob) h' a ob):
  Inv X pins σ (upd H a ob) { s with heap:=h',toks:=t' }:=
 I.write Z (.inl rfl) (λb q c z=>(hs.2 b c).trans z) he new
def CT(z:kvs.length<=sizeLine)(hd:(a==sysModules)=false)(I:KV kvs vs)(dd:h'.DictOf (bq P w) a vs):
  dH P w H' h' a (.dK kvs):=⟨z,hd,vs,I,dd⟩
def CU(hu:A.units+1<cLine)(I:Inv X pins σ H s)(g:wJ H a y v H')(ry:RelV y u)(rv:RelV v r)(h:∀s',Inv X pins σ H' s'->Q () s'):
  wpAny (model X.prog X.w) A (setItem (.ref a) u r) Q E s:=by
 rcases g with ⟨d,k,e,o,l,p⟩|⟨d,k,b,e,o,G,l,p⟩
 .subst o p;obtain⟨z,B,L,f,dd⟩:=vS I.hok e;have hz:L.length<=sizeLine:=by rw[<-f.length];exact z
  have C:(putK d k v).length<=sizeLine:=by have:=lD d k v;lia
  refine wpAny_setItem_pairs (vR ry) dd λJ i F=>h _ ?_;have M:∃q,J.get? a=some q:=let ⟨q,_,_,j,_⟩:=i;⟨q,j⟩;exact tT I (by rw[e];exact True.intro) F M (CT C B (f.put k rv) i)
 .subst o p;cases (show u=Value.ref b from ry);obtain⟨z,B,xs,f,dd⟩:=RD I.hok e;have hz:xs.length<=sizeLine:=by rw[<-abM f];exact z
  have C:(putK d k v).length<=sizeLine:=by have:=lD d k v;lia
  refine wpAny_setItem_heap (hsz:=hz) (abJ hu) (rq I.hok G) dd λJ i F=>h _ ?_;obtain⟨q,N,P,j,W,Y,Z,_,h5⟩:=i;refine tT I (by rw[e];exact True.intro) F ⟨q,j⟩ ⟨C,B,_,(f.put k G rv).keeps λc ys K=>?_,q,N,P,j,W,Y,Z,h5⟩;rw[aV (iQ K e (λz=>nomatch z))];exact K
end
def Fd(i:Expr):Prop:=∀ov iv,subscripted i false ov iv=operate [ov,iv] (getItem ov iv)
def JU{T z:String}(I:typeLookup (.type T) "__getitem__" = pure (some (.builtin z)))(Z:Fd slice)(h:wpAny (model prog w) A (eval value env) (λo s₁=>wpAny (model prog w) A (eval slice env) (λi s₂=>s₂.TypeIs o T/\wpAny (model prog w) A (getItem o i) Q E s₂) E s₁) E s):
  wpAny (model prog w) A (eval (.Subscript value slice pos) env) Q E s:=by
 refine Subscript_ (ZT h (λo s₁ c=>ZT c (λi s₂ a=>?_) λ_ _ x=>x) λ_ _ x=>x);obtain⟨d,a⟩:=a;refine gH ?_;refine gH (aaT d I ?_);have fin:wpAny (model prog w) A (subscripted slice false o i) (λr b=>wpAny (model prog w) A (letTemporaryGo value o r >>= λ_=>pure r) Q E b) E s₂:=by
  rw[Z o i];exact wpAny_operating (ZT a (λr b e=>gH (wpAny_letTemporaryGo (Ws e))) λ_ _ x=>x)
 first
  |exact Ws (gH fin)
  |exact gH (Ws (gH fin))
  |exact gH fin
def yZ{X:Cx}{pins:Ω}{σ:St}{H:Hp}{s:Shared}{a:Addr}{y:V}{o:Option V}(I:Inv X pins σ H s)(g:mQ H a y o):s.TypeIs (.ref a) "dict" :=by
 rcases g with ⟨c,k,e,_,_⟩|⟨c,k,b,e,_,_,_⟩
 .obtain⟨_,_,d,_,dd⟩:=rj I.hok e;exact dd.typeIs
 .obtain⟨_,_,xs,_,dd⟩:=rA I.hok e;exact dd.typeIs
def RE(z ty:TE):TE:=λσ H Q=>z σ H λx H1=>ty σ H1 λy H2=>∃a v,x=.ref a/\mQ H2 a y (some v)/\Q v H2
def RG(z ty I:TE):TS:=λD σ H=>I σ H λv H1=>z σ H1 λx H2=>ty σ H2 λy H3=>∃a H4,x=.ref a/\wJ H3 a y v H4/\D.nx σ H4
section
variable{X:Cx}{o i value:Expr}{pos pos':Pos}{td ty tv:TE}
def JV(z:X.A.units+1<cLine)(Z:PE X o td)(hi:PE X i ty)(hs:Fd i):PE X (.Subscript o i pos) (RE td ty):=by
 intro b s σ H Q I h;refine JU PySem.F.slot_dict_getitem.lookup hs (bI (Z b s σ H _ I h) λu s1 ⟨x,H1,I1,d,e⟩=>bI (hi b s1 σ H1 _ I1 e) λl s2 zr=>?_);obtain⟨y,H2,I2,f,a,v,ex,g,j⟩:=zr;subst ex;obtain rfl:u=Value.ref a:=d;exact⟨yZ I2 g,CS z I2 g f λp s3 I3 c=>⟨v,H2,I3,c,j⟩⟩
def JX(z:X.A.units+1<cLine)(Z:PE X o td)(hi:PE X i ty)(hv:PE X value tv)(hs:swapsWith value (some (.Subscript o i pos')) pos.line X.env=pure false):
  PS X (.Assign [.Subscript o i pos'] value pos) (RG td ty tv):=by
 intro b s σ H D I h;refine wpAny_Assign_Subscript (bI (hv b s σ H _ I h) λr s1 ⟨v,H1,I1,rv,c⟩=>bI (Z b s1 σ H1 _ I1 c) λu s2 ⟨x,H2,I2,d,e⟩=>bI (hi b s2 σ H2 _ I2 e) λl s3 zr=>?_) hs;obtain⟨y,H3,I3,f,a,H4,ex,g,j⟩:=zr;subst ex;obtain rfl:u=Value.ref a:=d;exact CU z I3 g f rv λs4 I4=>⟨σ,H4,I4,j⟩
end
def Fe(h:Heap)(z:sysModules<h.objs.size):dH P w H (h.push { cls:=.type "dict",data:=.dict #[]}) h.objs.size (.dK []):=
 ⟨aas _,beq_eq_false_iff_ne.mpr (aav (ZR z)),[],.nil,Heap.DictOf.new h⟩
def MK:TE:=λ_ H Q=>∀p,H p=none->Q (.ref p) (upd H p (.dK []))
section
variable{X:Cx}{pos:Pos}
def Ff:PE X (.Dict [] [] pos) MK:=λpins s σ H Q I h=>
 wpAny_Dict_empty ⟨.ref s.heap.objs.size,_,I.laid (λ_ _ q=>ZD _ q) (Zw _) (Fe s.heap I.big),rfl,h _ (I.hok.fresh (Zw _))⟩
end
def kB(kvs more:List (Key×V)):List (Key×V):=more.foldl (λa b=>putK a b.1 b.2) kvs
def KV.merge:∀{more:List (Key×V)}{rs:List (Key×Value)}{kvs:List (Key×V)}{vs:List (Key×Value)},KV more rs->KV kvs vs->KV (kB kvs more) (merged vs rs):=by
 intro more rs kvs vs r;unfold KV at r;induction r generalizing kvs vs with
 |nil=>intro q;exact q
 |@cons p q ps c h t a=>
  intro b;have e:KV (putK kvs p.1 p.2) (stored vs q.1 q.2):=by
   have:=b.put p.1 h.2;rw[<-h.1];exact this
  exact a e
theorem nu:∀(more kvs:List (Key×V)),(kB kvs more).length<=kvs.length+more.length
 |[],kvs=>by show kvs.length<=kvs.length+0;lia
 |p :: r,kvs=>by
  have a:=nu r (putK kvs p.1 p.2);have b:=lD kvs p.1 p.2;show(kB (putK kvs p.1 p.2) r).length<=_;rw[ZH];lia
structure M1(X:Cx)(o:Expr)(m:Str)(apos:Pos)(e:Expr)(cpos:Pos):Prop where
 base:wE o m X.env
 few:((backTo cpos (starEach [e] X.env)).all (λx=>!x.1)&&(backToKw cpos (keywordEach [] X.env)).all (λx=>x.1.isSome)
  &&decide (([e]:Kj).length+([]:List Keyword).length+(if ([]:List Keyword).isEmpty then 0 else 1)<30))=true
 line:(apos.endLine==cpos.line)=true
 trees:backTo cpos (starEach [e] X.env)=[(false,eval e X.env)]
structure M2(X:Cx)(o:Expr)(m:Str)(apos:Pos)(e f:Expr)(cpos:Pos):Prop where
 base:wE o m X.env
 few:((backTo cpos (starEach [e,f] X.env)).all (λx=>!x.1)&&(backToKw cpos (keywordEach [] X.env)).all (λx=>x.1.isSome)
  &&decide (([e,f]:Kj).length+([]:List Keyword).length+(if ([]:List Keyword).isEmpty then 0 else 1)<30))=true
 line:(apos.endLine==cpos.line)=true
 trees:backTo cpos (starEach [e,f] X.env)=[(false,eval e X.env),(false,eval f X.env)]
def ML(H:Hp)(a:Addr):Prop:=(∃kvs,Rd H a (.dK kvs))\/∃kvs,Rd H a (.dT kvs)
def CV{X:Cx}{pins:Ω}{σ:St}{H:Hp}{s:Shared}{a:Addr}(I:Inv X pins σ H s)(d:ML H a):
  s.TypeIs (.ref a) "dict" /\(∀b,Value.ref a=.ref b->∃ob,s.heap.get? b=some ob/\ob.dict=none)/\(a==sysModules)=false:=by
 rcases d with ⟨c,e⟩|⟨c,e⟩
 .obtain⟨_,f,i,_,dd⟩:=rj I.hok e;refine⟨dd.typeIs,λb q=>?_,f⟩
  exists q
  obtain⟨ob,_,_,g,h,_⟩:=dd;exact⟨ob,g,h.2.1⟩
 .obtain⟨_,f,xs,_,dd⟩:=rA I.hok e;refine⟨dd.typeIs,λb q=>?_,f⟩
  exists q
  obtain⟨ob,_,_,g,h,_⟩:=dd;exact⟨ob,g,h.2.1⟩
section
variable{X:Cx}{pins:Ω}{σ:St}{H:Hp}{s:Shared}{a:Addr}{y d:V}{u r:Value}{o:Option V}{A:Around}{E:Φ}
def MM(hu:A.units+1<cLine)(I:Inv X pins σ H s)(g:mQ H a y o)(Z:RelV y u)(rd:RelV d r)(h:∀w' s',Inv X pins σ H s'->RelV (o.getD d) w'->Q w' s'):
  wpAny (model X.prog X.w) A (call (.builtin "dict.get") [.ref a,u,r]) Q E s:=by
 rcases g with ⟨f,k,e,i,l⟩|⟨f,k,b,e,i,p,l⟩
 .subst i;obtain⟨z,j,q,c,dd⟩:=rj I.hok e;refine call_meetsIn abr dd.typeIs ack (ace _ _ _) (meets_dict_get_default (bq X.prog X.w) a (vR Z) j r) ⟨_,dd.mapOf,h _ _ (I.tok _) ?_⟩;rw[l];exact(c.val k).getD rd
 .subst i;cases (show u=Value.ref b from Z);obtain⟨z,j,xs,c,dd⟩:=rA I.hok e;refine call_meetsIn abr dd.typeIs ack (ace _ _ _) (meetsH_dict_get_default (tupleKind (bq X.prog X.w)) a b j r) ⟨abJ hu,k,xs,rq I.hok p,dd,h _ _ (I.tok _) ?_⟩;rw[l];exact(c.val k).getD rd
end
def MN(I ty Z:TE):TE:=λσ H Q=>I σ H λx H1=>∃a,x=.ref a/\ML H1 a/\ty σ H1 λy H2=>Z σ H2 λz H3=>∃o,mQ H3 a y o/\Q (o.getD z) H3
section
variable{X:Cx}{o e f:Expr}{apos cpos:Pos}{td ty tx:TE}
def Fi(Z:X.A.units+1<cLine)(ho:PE X o td)(he:PE X e ty)(hf:PE X f tx)(m:M2 X o "get" apos e f cpos):PE X (.Call (.Attribute o "get" apos) [e,f] [] cpos) (MN td ty tx):=by
 intro b s σ H Q I h;refine wpAny_Call_method m.base m.few m.line PySem.F.plainAttrs_dict abr PySem.F.type_dict_get (bI (ho b s σ H _ I h) λu s1 ⟨x,H1,I1,i,a,ex,d,j⟩=>?_);subst ex;obtain rfl:u=Value.ref a:=i;obtain⟨l,p,_⟩:=CV I1 d;refine⟨l,p,?_⟩;rw[m.trees];refine abm rfl (abD (aaC (bI (he b s1 σ H1 _ I1 j) λC s2 ⟨y,H2,I2,q,r⟩=>
  aaC (bI (hf b s2 σ H2 _ I2 r) λG s3 ⟨z,H3,I3,rz,J,g,B⟩=>aaY ?_))))
 exact MM Z I3 g q rz λK s4 I4 c=>⟨_,H3,I4,c,B⟩
end
end L2
namespace Ev
inductive D where
 |aU|bl (b:Bool)|int (i:Int)|str (s:Ξ)|tup (ds:List D)|ref (n:Nat)
abbrev _root_.T1:=List D
inductive O where
 |lst (ds:T1)|bQ (ds:T1)
 |dct (kvs:Θ)
abbrev Hh:=List O
abbrev Fr:=List (Option D)
inductive R(α:Type) where
 |ok (a:α) (h:Hh)
 |bad
def R.bind{α β:Type}(r:R α)(f:α->Hh->R β):R β:=
 match r with
 |.ok a h=>f a h
 |.bad=>.bad
@[simp] theorem ao{α β:Type}(a:α)(h:Hh)(f:α->Hh->R β):(R.ok a h).bind f=f a h:=rfl
@[simp] theorem Fj{α β:Type}(f:α->Hh->R β):(R.bad:R α).bind f=.bad:=rfl
def ai{α β:Type}{r:R α}{f:α->Hh->R β}{b:β}(e:r.bind f=.ok b h):∃a h1,r=.ok a h1/\f a h1=.ok b h:=by
 cases r with
 |ok a h1=>exact⟨a,h1,rfl,e⟩
 |bad=>exists e
def R.of{α:Type}(o:Option α)(h:Hh):R α:=match o with
 |some a=>.ok a h
 |none=>.bad
@[simp] theorem dB{α:Type}(a:α)(h:Hh):R.of (some a) h=.ok a h:=rfl
@[simp] theorem of_none{α:Type}(h:Hh):R.of (none:Option α) h=.bad:=rfl
def aJ{α:Type}{o:Option α}{a:α}(e:R.of o h=.ok a h'):o=some a/\h'=h:=by
 cases o with
 |none=>exists e
 |some b=>exists e;exact⟨rfl,rfl⟩
inductive bA where
 |add|sub|mul|fdiv|mod
inductive br where
 |eq|ne|lt|gt
 |uT|mR
inductive TY where
 |int|bool|str|tuple|list
inductive BI where
 |len|sum|min
 |all
 |mS
 |kQ
inductive ME where
 |join|append|extend|pop
inductive T where
 |one (i:Nat)|many (l:Ξ)
mutual
inductive E where
 |c (d:D)|v (i:Nat)|tup (es:Es)|lst (es:Es)
 |bin (o:bA) (a b:E)|cmp (o:br) (a b:E)
 |nt (a:E)|neg (a:E)|an (a b:E)|orr (a b:E)|iT (t a b:E)
 |ix (a b:E)|sl (a:E) (lo hi:Eo)
 |cl (f:Nat) (es:Es)|bi (b:BI) (es:Es)|me (m:ME) (o:E) (es:Es)
 |comp (elt:E) (t:T) (it:It) (cond:Eo)
 |gZ (it:It)
 |iU (a:E)
 |gf|jP (a k:E)|jQ (a k x:E)
inductive Es where
 |nil|cons (e:E) (es:Es)
inductive Eo where
 |no|yes (e:E)
inductive It where
 |seq (e:E)|jM (es:Es)
 |zip (a b:E)
 |lE (a:E)|wL (a b:E)
 |rev (a:E)
end
mutual
inductive S where
 |set (i:Nat) (e:E)
 |dput (o i e:E)
 |j0 (o e:E)|gT (i x y f:Nat)
 |exp (e:E)|ret (e:E)|iff (t:E) (a b:Ss)|for (t:T) (it:It) (b:Ss)|lX (t:E) (b:Ss)
 |eG (c:Nat)
 |tr (f k:Nat) (es:Es)
inductive Ss where
 |nil|cons (s:S) (ss:Ss)
end
inductive Fl where
 |nx|bk|ct|ret (d:D)
def big:Nat:=16777216
def cP(f:D->D->Option Bool):List D->List D->Option Bool
 |[],[]=>some true
 |x :: xs,y :: ys=>do
  let b <-f x y
  let c <-cP f xs ys
  pure (b&&c)
 |_,_=>some false
def bw(h:Hh)(n:Nat):Option (T1):=match h[n]? with
 |some (.lst ds)=>some ds
 |some (.bQ ds)=>some ds
 |_=>none
def b2i(b:Bool):Int:=if b then 1 else 0
def kC(h:Hh)(f:D->D->Option Bool)(a b:Nat):Option Bool:=if a=b then (bw h a).map λ_=>true else match h[a]?,h[b]? with
 |some (.lst x),some (.lst y)=>cP f x y
 |some (.bQ x),some (.lst y)=>cP f x y
 |some (.lst x),some (.bQ y)=>cP f x y
 |_,_=>none
def jR(h:Hh):Nat->D->D->Option Bool
 |0,_,_=>none
 |_+1,.aU,.aU=>some true
 |_+1,.bl a,.bl b=>some (a==b)
 |_+1,.int a,.int b=>some (a==b)
 |_+1,.bl a,.int b=>some (b2i a==b)
 |_+1,.int a,.bl b=>some (a==b2i b)
 |_+1,.str a,.str b=>some (a==b)
 |n+1,.tup a,.tup b=>cP (jR h n) a b
 |n+1,.ref a,.ref b=>kC h (jR h n) a b
 |_+1,.ref a,_=>(bw h a).map λ_=>false
 |_+1,_,.ref a=>(bw h a).map λ_=>false
 |_+1,_,_=>some false
def deep:Nat:=20
def truthy(h:Hh):D->Option Bool
 |.aU=>some false
 |.bl b=>some b
 |.int i=>some (i != 0)
 |.str s=>some (!s.isEmpty)
 |.tup ds=>some (!ds.isEmpty)
 |.ref n=>match h[n]? with
  |some (.dct kvs)=>some (!kvs.isEmpty)
  |_=>(bw h n).map λds=>!ds.isEmpty
def alloc(ds:T1)(h:Hh):R D:=if ds.length<=big then .ok (.ref h.length) (h++[.lst ds])else .bad
def rep{α:Type}(k:Nat)(l:List α):List α:=(List.replicate k l).flatten
def bZ(i j:Int):Bool:=(decide (-(2 ^ 64)<i)&&decide (i<2 ^ 64)) || (decide (-(2 ^ 64)<j)&&decide (j<2 ^ 64))
def bX:bA->D->D->Hh->R D
 |.add,.int i,.int j,h=>.ok (.int (i+j)) h
 |.add,.str a,.str b,h=>if a.length+b.length<=big then .ok (.str (a++b)) h else .bad
 |.add,.tup a,.tup b,h=>if a.length+b.length<=big then .ok (.tup (a++b)) h else .bad
 |.add,.ref a,.ref b,h=>match h[a]?,h[b]? with
  |some (.lst x),some (.lst y)=>alloc (x++y) h
  |_,_=>.bad
 |.sub,.int i,.int j,h=>.ok (.int (i - j)) h
 |.mul,.int i,.int j,h=>if bZ i j then .ok (.int (i*j)) h else .bad
 |.mul,.str a,.int k,h=>if 0<=k/\k<=1000/\a.length<=1000 then .ok (.str (rep k.toNat a)) h else .bad
 |.mul,.tup a,.int k,h=>if 0<=k/\k<=1000/\a.length<=1000 then .ok (.tup (rep k.toNat a)) h else .bad
 |.mul,.ref a,.int k,h=>match h[a]? with
  |some (.lst x)=>if 0<=k/\k<=1000/\x.length<=1000 then alloc (rep k.toNat x) h else .bad
  |_=>.bad
 |.fdiv,.int i,.int j,h=>if 0<j/\j<1073741824 then .ok (.int (i / j)) h else .bad
 |.mod,.int i,.int j,h=>if 0<j then .ok (.int (i % j)) h else .bad
 |_,_,_,_=>.bad
def lexLe:List Nat->List Nat->Bool
 |[],_=>true
 |_ :: _,[]=>false
 |x :: xs,y :: ys=>if x=y then lexLe xs ys else decide (x<y)
def cop(o:br)(x y:D)(h:Hh):Option Bool:=match o,x,y with
 |.eq,x,y=>jR h deep x y
 |.ne,x,y=>(jR h deep x y).map (!·)
 |.lt,.int i,.int j=>some (decide (i<j))
 |.gt,.int i,.int j=>some (decide (j<i))
 |.uT,x,.aU=>some (match x with|.aU=>true|_=>false)
 |.mR,x,.aU=>some (match x with|.aU=>false|_=>true)
 |_,_,_=>none
def dU(n:Nat)(i:Int):Option Nat:=if 0<=i then (if i<n then some i.toNat else none)else if -(n:Int)<=i then some (i+n).toNat else none
def bM{α:Type}(xs:List α)(i:Int):Option α:=(dU xs.length i).bind λj=>xs[j]?
def eK(x y:D)(h:Hh):Option D:=match x,y with
 |.tup ds,.int i=>bM ds i
 |.str s,.int i=>(bM s i).map λc=>.str [c]
 |.ref n,.int i=>(bw h n).bind λds=>bM ds i
 |_,_=>none
def aS(n d:Nat):Option Int->Nat
 |none=>d
 |some v=>if v<0 then (v+n).toNat else min v.toNat n
def cut{α:Type}(xs:List α)(lo hi:Option Int):List α:=(xs.drop (aS xs.length 0 lo)).take (aS xs.length xs.length hi - aS xs.length 0 lo)
def ji(x:D)(lo hi:Option Int)(h:Hh):R D:=match x with
 |.tup ds=>.ok (.tup (cut ds lo hi)) h
 |.str s=>.ok (.str (cut s lo hi)) h
 |.ref n=>match bw h n with
  |some ds=>alloc (cut ds lo hi) h
  |none=>.bad
 |_=>.bad
def boolsOf:List D->Option (List Bool)
 |[]=>some []
 |.bl b :: ds=>(boolsOf ds).map λr=>b :: r
 |_=>none
def intsOf:List D->Option Kk
 |[]=>some []
 |.int i :: ds=>(intsOf ds).map λr=>i :: r
 |_=>none
def strsOf:List D->Option Δ
 |[]=>some []
 |.str s :: ds=>(strsOf ds).map λr=>s :: r
 |_=>none
def cE(z:Ξ):List Ξ->Ξ
 |[]=>[]
 |[s]=>s
 |s :: t :: r=>s++z++cE z (t :: r)
def MO(x:Ξ):List Ξ->Δ
 |[]=>[x]
 |y :: ys=>if lexLe x y then x :: y :: ys else y :: MO x ys
def dI:List Ξ->Δ
 |[]=>[]
 |x :: xs=>MO x (dI xs)
def bU(kvs:Θ)(k:Int):Option Ξ:=(kvs.find? λp=>decide (p.1=k)).map (·.2)
def cF(kvs:Θ)(k:Int)(s:Ξ):Θ:=if (kvs.any λp=>decide (p.1=k))=true then kvs.map (λp=>if p.1=k then (p.1,s)else p)else kvs++[(k,s)]
def eW(h:Hh):D->Option Θ
 |.ref n=>match h[n]? with
  |some (.dct kvs)=>some kvs
  |_=>none
 |_=>none
def wN(x y:D)(h:Hh):Option D:=match eW h x,y with
 |some kvs,.int k=>(bU kvs k).map .str
 |_,_=>none
def wO(x y z:D)(h h0:Hh):Option D:=match eW h0 x,eW h x,y with
 |some _,some kvs,.int k=>some (match bU kvs k with|some s=>.str s|none=>z)
 |_,_,_=>none
def rB(x y z:D)(h:Hh):Option Hh:=match x,y,z with
 |.ref n,.int k,.str s=>match h[n]? with
  |some (.dct kvs)=>if kvs.length<big then some (h.set n (.dct (cF kvs k s)))else none
  |_=>none
 |_,_,_=>none
def cj(k m:Θ):Θ:=m.foldl (λa p=>cF a p.1 p.2) k
def vU(x y:D)(h h0:Hh):Option Hh:=match x,y with
 |.ref n,.ref m=>match eW h0 (.ref n),h[n]?,h[m]? with
  |some _,some (.dct k),some (.dct j)=>if n≠m/\k.length+j.length<=big then some (h.set n (.dct (cj k j)))else none
  |_,_,_=>none
 |_,_=>none
def dd{α:Type}[DecidableEq α](l:List α):List α:=l.foldl (λa k=>if k∈a then a else a++[k]) []
def insI(x:Int):List Int->Kk
 |[]=>[x]
 |y :: ys=>if x<=y then x :: y :: ys else y :: insI x ys
def sortI:List Int->Kk
 |[]=>[]
 |x :: xs=>insI x (sortI xs)
def cQ(b:BI)(xs:T1)(h:Hh):R D:=match b,xs with
 |.len,[.str s]=>if s.length<=big then .ok (.int s.length) h else .bad
 |.len,[.tup ds]=>.ok (.int ds.length) h
 |.len,[.ref n]=>R.of ((bw h n).map λds=>.int ds.length) h
 |.all,[.ref n]=>R.of (((bw h n).bind boolsOf).map λbs=>.bl (bs.all id)) h
 |.sum,[.ref n]=>R.of (((bw h n).bind intsOf).map λis=>.int is.sum) h
 |.min,[.int i,.int j]=>.ok (.int (if j<i then j else i)) h
 |.kQ,[.ref n]=>match (bw h n).bind intsOf with
  |some c=>if c.length<4095/\(dd c).length<64 then alloc ((sortI (dd c)).map .int) h else .bad
  |none=>.bad
 |.mS,[x]=>match eW h x with
  |some a=>if a.length<64 then alloc ((sortI (a.map (·.1))).map .int) h else .bad
  |none=>.bad
 |_,_=>.bad
def fK(m:ME)(o:D)(xs:T1)(h:Hh):R D:=match m,o,xs with
 |.join,.str sep,[.ref n]=>match (bw h n).bind strsOf with
  |some a=>if (a.map (·.length)).sum+a.length*sep.length<=big then .ok (.str (cE sep a)) h else .bad
  |none=>.bad
 |.append,.ref n,[x]=>match h[n]? with
  |some (.lst ds)=>if ds.length<big then .ok .aU (h.set n (.lst (ds++[x])))else .bad
  |_=>.bad
 |.extend,.ref n,[.ref m]=>match h[n]?,h[m]? with
  |some (.lst ds),some (.lst es)=>if ds.length+es.length<=big then .ok .aU (h.set n (.lst (ds++es)))else .bad
  |_,_=>.bad
 |.pop,.ref n,[]=>match h[n]? with
  |some (.lst ds)=>match ds[ds.length - 1]? with
   |some x=>.ok x (h.set n (.lst ds.dropLast))
   |none=>.bad
  |_=>.bad
 |_,_,_=>.bad
def zA(m:ME)(x:D)(h:Hh):Bool:=match m,x with
 |.join,.str _=>true
 |.join,_=>false
 |_,.ref n=>(bw h n).isSome
 |_,_=>false
def mT(x:D):List (D×D)->Option D
 |[]=>none
 | (k,v) :: r=>match jR [] 1 k x with
  |some true=>some v
  |some false=>mT x r
  |none=>none
abbrev Src:=T1×List (Nat×T1)
def fM(h:Hh):D->Option Src
 |.tup ds=>some (ds,[])
 |.str s=>some (s.map λc=>.str [c],[])
 |.ref n=>(bw h n).map λds=>(ds,[(n,ds)])
 |_=>none
def range(lo:Int)(n:Nat):T1:=(List.range n).map λ(i:Nat)=>.int (lo+i)
def fO:List D->Option Src
 |[.int j]=>if -(2 ^ 62)<=j/\j<2 ^ 62 then some (range 0 j.toNat,[])else none
 |[.int i,.int j]=>if -(2 ^ 62)<=i/\i<2 ^ 62/\-(2 ^ 62)<=j/\j<2 ^ 62 then some (range i (j - i).toNat,[])else none
 |_=>none
def jt(a b:T1):T1:=List.zipWith (λx y=>.tup [x,y]) a b
def dj:Int->List D->T1
 |_,[]=>[]
 |k,x :: xs=>.tup [.int k,x] :: dj (k+1) xs
def Fp:D->Option (T1)
 |.str a=>some (dj 0 (a.map λc=>.str [c]))
 |_=>none
def HM:D->D->Option (T1)
 |.str a,.str b=>some (jt (a.map λc=>.str [c]) (b.map λc=>.str [c]))
 |_,_=>none
def Bf(a b:T1):Bool:=@decide (a=b) (Classical.propDecidable _)
def uU(a b:T1):Bf a b=true↔a=b:=@acJ _ (Classical.propDecidable _)
@[simp] theorem Bg(a:T1):Bf a a=true:=(uU a a).mpr rfl
def stays(h:Hh):List (Nat×T1)->Bool
 |[]=>true
 | (n,ds) :: r=>(match bw h n with|some es=>Bf es ds|none=>false)&&stays h r
def cR:List Nat->List D->Fr->Option Fr
 |[],[],fr=>some fr
 |i :: is,d :: ds,fr=>cR is ds (fr.set i (some d))
 |_,_,_=>none
def bD:T->D->Fr->Option Fr
 |.one i,d,fr=>some (fr.set i (some d))
 |.many l,.tup ds,fr=>cR l ds fr
 |_,_,_=>none
def slots:T->Ξ
 |.one i=>[i]
 |.many l=>l
def undef(t:T)(fr:Fr):Bool:=(slots t).all λi=>(fr[i]?.join).isNone
def Fq:D->Option (T1)
 |.tup ds=>some ds
 |_=>none
def tU:D->Hh->R D
 |.tup ds,h=>.ok (.tup ds) h
 |.ref n,h=>match bw h n with
  |some ds=>if ds.length<=big then .ok (.tup ds) h else .bad
  |none=>.bad
 |_,_=>.bad
def Bh(h:Hh):D->Option Src
 |.ref n=>(bw h n).map λds=>(ds,[(n,ds)])
 |_=>none
def cI(f:D->Hh->R (Option D))(z:List (Nat×T1)):List D->Hh->R (T1)
 |[],h=>if stays h z then .ok [] h else .bad
 |d :: ds,h=>if stays h z then (f d h).bind λo a=>(cI f z ds a).bind λr b=>.ok (o.toList++r) b else .bad
def forL(f:D->Fr->Hh->R (Fl×Fr))(z:List (Nat×T1)):List D->Fr->Hh->R (Fl×Fr)
 |[],fr,h=>if stays h z then .ok (.nx,fr) h else .bad
 |d :: ds,fr,h=>if stays h z then (f d fr h).bind λp a=>match p.1 with
   |.nx=>forL f z ds p.2 a
   |.ct=>forL f z ds p.2 a
   |.bk=>.ok (.nx,p.2) a
   |.ret x=>.ok (.ret x,p.2) a
  else .bad
def fP(t:Fr->Hh->R Bool)(f:Fr->Hh->R (Fl×Fr)):Nat->Fr->Hh->R (Fl×Fr)
 |0,_,_=>.bad
 |n+1,fr,h=>(t fr h).bind λb c=>if b then (f fr c).bind λp a=>match p.1 with
   |.nx=>fP t f n p.2 a
   |.ct=>fP t f n p.2 a
   |.bk=>.ok (.nx,p.2) a
   |.ret x=>.ok (.ret x,p.2) a
  else .ok (.nx,fr) c
abbrev aE:=Nat->List D->Hh->R D
def intOf:D->Option Int
 |.int i=>some i
 |_=>none
mutual
noncomputable def ev(P:aE):E->Fr->Hh->R D
 |.c d,_,h=>.ok d h
 |.v i,fr,h=>R.of (fr[i]?.join) h
 |.tup es,fr,h=>(bY P es fr h).bind λds e=>if ds.length<=big then .ok (.tup ds) e else .bad
 |.lst es,fr,h=>(bY P es fr h).bind λds e=>alloc ds e
 |.bin o a b,fr,h=>(ev P a fr h).bind λx e=>(ev P b fr e).bind λy g=>bX o x y g
 |.cmp o a b,fr,h=>(ev P a fr h).bind λx e=>(ev P b fr e).bind λy g=>R.of ((cop o x y g).map .bl) g
 |.nt a,fr,h=>(ev P a fr h).bind λx e=>match x with
   |.bl b=>.ok (.bl (!b)) e
   |_=>.bad
 |.neg a,fr,h=>(ev P a fr h).bind λx e=>match x with
   |.int i=>.ok (.int (-i)) e
   |_=>.bad
 |.an a b,fr,h=>(ev P a fr h).bind λx e=>match x with
   |.bl true=>ev P b fr e
   |.bl false=>.ok (.bl false) e
   |_=>.bad
 |.orr a b,fr,h=>(ev P a fr h).bind λx e=>match x with
   |.bl true=>.ok (.bl true) e
   |.bl false=>ev P b fr e
   |_=>.bad
 |.iT t a b,fr,h=>(iH P t (ev P t fr h) fr h).bind λk e=>if k then ev P a fr e else ev P b fr e
 |.ix a b,fr,h=>(ev P a fr h).bind λx e=>(ev P b fr e).bind λy g=>R.of (eK x y g) g
 |.sl a lo hi,fr,h=>(ev P a fr h).bind λx e=>(iV P lo fr e).bind λl g=>(iV P hi fr g).bind λu j=>ji x l u j
 |.cl f es,fr,h=>(bY P es fr h).bind λds e=>P f ds e
 |.bi b es,fr,h=>(bY P es fr h).bind λds e=>cQ b ds e
 |.me m o es,fr,h=>(ev P o fr h).bind λx e=>if zA m x e then (bY P es fr e).bind λds g=>fK m x ds g else .bad
 |.comp elt t it cond,fr,h=>(cL P it fr h).bind λs e=>if undef t fr then
   (cI (λd g=>match bD t d fr with
    |none=>.bad
    |some p=>(kR P cond p g).bind λk j=>if k then (ev P elt p j).bind λx q=>.ok (some x) q else .ok none j) s.2 s.1 e).bind λds g=>alloc ds g else .bad
 |.gZ it,fr,h=>(cL P it fr h).bind λs e=>alloc s.1 e
 |.gf,_,h=>.ok (.ref h.length) (h++[.dct []])
 |.jP a k,fr,h=>(ev P a fr h).bind λx e=>(ev P k fr e).bind λy g=>R.of (wN x y g) g
 |.jQ a k z,fr,h=>(ev P a fr h).bind λx e=>(ev P k fr e).bind λy g=>(ev P z fr g).bind λw j=>R.of (wO x y w j e) j
 |.iU a,fr,h=>(ev P a fr h).bind λx e=>tU x e
noncomputable def bY(P:aE):Es->Fr->Hh->R (T1)
 |.nil,_,h=>.ok [] h
 |.cons e es,fr,h=>(ev P e fr h).bind λd a=>(bY P es fr a).bind λds b=>.ok (d :: ds) b
noncomputable def iV(P:aE):Eo->Fr->Hh->R (Option Int)
 |.no,_,h=>.ok none h
 |.yes e,fr,h=>(ev P e fr h).bind λd a=>R.of ((intOf d).map some) a
noncomputable def kR(P:aE):Eo->Fr->Hh->R Bool
 |.no,_,h=>.ok true h
 |.yes e,fr,h=>iH P e (ev P e fr h) fr h
noncomputable def iH(P:aE):E->R D->Fr->Hh->R Bool
 |.an a b,_,fr,h=>(iH P a (ev P a fr h) fr h).bind λk c=>if k then iH P b (ev P b fr c) fr c else .ok false c
 |.orr a b,_,fr,h=>(iH P a (ev P a fr h) fr h).bind λk c=>if k then .ok true c else iH P b (ev P b fr c) fr c
 |.nt a,_,fr,h=>(iH P a (ev P a fr h) fr h).bind λk c=>.ok (!k) c
 |_,v,_,_=>v.bind λx c=>R.of (truthy c x) c
noncomputable def cL(P:aE):It->Fr->Hh->R Src
 |.seq e,fr,h=>(ev P e fr h).bind λx c=>R.of (fM c x) c
 |.jM es,fr,h=>(bY P es fr h).bind λds c=>R.of (fO ds) c
 |.zip a b,fr,h=>(ev P a fr h).bind λx c=>(ev P b fr c).bind λy d=>R.of ((Bh d x).bind λs=>(Bh d y).map λt=>(jt s.1 t.1,s.2++t.2)) d
 |.lE a,fr,h=>(ev P a fr h).bind λx c=>R.of ((Fp x).map λl=>(l,[])) c
 |.wL a b,fr,h=>(ev P a fr h).bind λx c=>(ev P b fr c).bind λy d=>R.of ((HM x y).map λl=>(l,[])) d
 |.rev a,fr,h=>(ev P a fr h).bind λx c=>R.of ((Fq x).map λds=>(ds.reverse,[])) c
end
abbrev bu(P:aE)(e:E)(fr:Fr)(h:Hh):R Bool:=iH P e (ev P e fr h) fr h
def leaf:E->Bool
 |.an _ _=>false
 |.orr _ _=>false
 |.nt _=>false
 |_=>true
def Ft{P:aE}{fr:Fr}{h:Hh}:bu P (.an a b) fr h=(bu P a fr h).bind λk h1=>if k then bu P b fr h1 else .ok false h1:=rfl
def Fv{P:aE}{fr:Fr}{h:Hh}:bu P (.orr a b) fr h=(bu P a fr h).bind λk h1=>if k then .ok true h1 else bu P b fr h1:=rfl
def MP{P:aE}{fr:Fr}{h:Hh}:bu P (.nt a) fr h=(bu P a fr h).bind λk h1=>.ok (!k) h1:=rfl
def eN{P:aE}{e:E}{fr:Fr}{h:Hh}(l:leaf e=true):bu P e fr h=(ev P e fr h).bind λx h1=>R.of (truthy h1 x) h1:=by
 cases e<;>first|rfl|nomatch l
def rC(P:aE)(o e:E)(fr:Fr)(h:Hh):R (Fl×Fr):=(ev P o fr h).bind λx a=>(ev P e fr a).bind λy b=>match vU x y b a with
 |some c=>.ok (.nx,fr) c
 |none=>.bad
def xo:Nat:=1000
def Bj(k:Nat):D->Option D
 |.int c=>
  if k=1002 then (if c=0 then some (.bl true)else none)else
  if 0<=c/\c<k then some (.tup [.str [114,101,102,117,115,101,100],.int c])else none
 |_=>none
def HN(k:Nat)(d:D):D:=if k=1002 then .bl false else d
def tryD(k:Nat):R D->R D->R D
 |.ok d h,_=>.ok (HN k d) h
 |.bad,q=>q.bind λc h=>R.of (Bj k c) h
mutual
noncomputable def ex(P:aE)(w:Nat):S->Fr->Hh->R (Fl×Fr)
 |.set i e,fr,h=>(ev P e fr h).bind λx c=>.ok (.nx,fr.set i (some x)) c
 |.dput o i e,fr,h=>(ev P e fr h).bind λx c=>(ev P o fr c).bind λy g=>(ev P i fr g).bind λz p=>match rB y z x p with
   |some q=>.ok (.nx,fr) q
   |none=>.bad
 |.j0 o e,fr,h=>rC P o e fr h
 |.gT i x y f,fr,h=>(cL P (.seq (.v y)) (fr.set i (some (.ref h.length))) (h++[.dct []])).bind λs c=>forL (λd j g=>match bD (.one x) d j with
   |some l=>rC P (.v i) (.cl f (.cons (.v x) .nil)) l g
   |none=>.bad) s.2 s.1 (fr.set i (some (.ref h.length))) c
 |.exp e,fr,h=>(ev P e fr h).bind λ_ c=>.ok (.nx,fr) c
 |.ret e,fr,h=>(ev P e fr h).bind λx c=>.ok (.ret x,fr) c
 |.iff t a b,fr,h=>(bu P t fr h).bind λk c=>if k then exs P w a fr c else exs P w b fr c
 |.for t it b,fr,h=>(cL P it fr h).bind λs c=>forL (λd j g=>match bD t d j with
   |some l=>exs P w b l g
   |none=>.bad) s.2 s.1 fr c
 |.lX t b,fr,h=>fP (λj g=>bu P t j g) (λj g=>exs P w b j g) w fr h
 |.eG _,_,_=>.bad
 |.tr f k es,fr,h=>(bY P es fr h).bind λds c=>(tryD k (P f ds c) (P (f+xo) ds c)).bind λx g=>.ok (.ret x,fr) g
noncomputable def exs(P:aE)(w:Nat):Ss->Fr->Hh->R (Fl×Fr)
 |.nil,fr,h=>.ok (.nx,fr) h
 |.cons s ss,fr,h=>(ex P w s fr h).bind λp a=>match p.1 with
   |.nx=>exs P w ss p.2 a
   |_=>.ok p a
end
def g7(P:aE)(w:Nat)(fr:Fr)(h:Hh):(∀e,ex P w (.exp e) fr h=((ev P e fr h).bind λ_ h1=>.ok (.nx,fr) h1))
 /\(∀i e,ex P w (.set i e) fr h=((ev P e fr h).bind λx h1=>.ok (.nx,fr.set i (some x)) h1))
 /\(∀o i e,ex P w (.dput o i e) fr h=((ev P e fr h).bind λx h1=>(ev P o fr h1).bind λy h2=>(ev P i fr h2).bind λz h3=>match rB y z x h3 with
   |some h4=>.ok (.nx,fr) h4
   |none=>.bad))
 /\(∀o e,ex P w (.j0 o e) fr h=(rC P o e fr h))
 /\(∀i x y f,ex P w (.gT i x y f) fr h=((cL P (.seq (.v y)) (fr.set i (some (.ref h.length))) (h++[.dct []])).bind λs h1=>forL (λd aq h2=>match bD (.one x) d aq with
   |some bB=>rC P (.v i) (.cl f (.cons (.v x) .nil)) bB h2
   |none=>.bad) s.2 s.1 (fr.set i (some (.ref h.length))) h1))
 /\(∀e,ex P w (.exp e) fr h=((ev P e fr h).bind λ_ h1=>.ok (.nx,fr) h1))
 /\(∀e,ex P w (.ret e) fr h=((ev P e fr h).bind λx h1=>.ok (.ret x,fr) h1))
 /\(∀t a b,ex P w (.iff t a b) fr h=((bu P t fr h).bind λk h1=>if k then exs P w a fr h1 else exs P w b fr h1))
 /\(∀t it b,ex P w (.for t it b) fr h=((cL P it fr h).bind λs h1=>forL (λd aq h2=>match bD t d aq with
   |some bB=>exs P w b bB h2
   |none=>.bad) s.2 s.1 fr h1))
 /\(∀t b,ex P w (.lX t b) fr h=(fP (λaq h2=>bu P t aq h2) (λaq h2=>exs P w b aq h2) w fr h))
 /\(∀x1,ex P w (.eG x1) fr h=(.bad))
 /\(∀f k es,ex P w (.tr f k es) fr h=((bY P es fr h).bind λds h1=>(tryD k (P f ds h1) (P (f+xo) ds h1)).bind λx h2=>.ok (.ret x,fr) h2))
 /\True:=by and_intros<;>intros<;>first|rfl|trivial
structure Fn where
 np:Nat
 ns:Nat
 body:Ss
def cW(fn:Fn)(ds:T1):Fr:=ds.map some++List.replicate (fn.ns - fn.np) none
def endOf(r:R (Fl×Fr)):R D:=r.bind λp h=>match p.1 with
 |.ret d=>.ok d h
 |.nx=>.ok .aU h
 |_=>.bad
abbrev XR:=Option (Nat×Hh)
abbrev di:=Nat->List D->Hh->XR
mutual
noncomputable def xe(P:aE)(X:di):E->Fr->Hh->XR
 |.cl f es,fr,h=>match bY P es fr h with
  |.ok ds a=>X f ds a
  |.bad=>xa P X es fr h
 |_,_,_=>none
noncomputable def xa(P:aE)(X:di):Es->Fr->Hh->XR
 |.nil,_,_=>none
 |.cons e es,fr,h=>match ev P e fr h with
  |.ok _ a=>xa P X es fr a
  |.bad=>xe P X e fr h
end
mutual
noncomputable def xs(P:aE)(X:di)(w:Nat):S->Fr->Hh->XR
 |.eG c,_,h=>if c<9 then some (c,h)else none
 |.set _ e,fr,h=>xe P X e fr h
 |.exp e,fr,h=>xe P X e fr h
 |.ret e,fr,h=>xe P X e fr h
 |.iff t a b,fr,h=>match bu P t fr h with
  |.ok k d=>if k then xss P X w a fr d else xss P X w b fr d
  |.bad=>xe P X t fr h
 |_,_,_=>none
noncomputable def xss(P:aE)(X:di)(w:Nat):Ss->Fr->Hh->XR
 |.nil,_,_=>none
 |.cons s ss,fr,h=>match ex P w s fr h with
  |.ok (.nx,ah) h1=>xss P X w ss ah h1
  |.ok _ _=>none
  |.bad=>xs P X w s fr h
end
def nv(X:di)(f:Nat)(ds:T1)(h:Hh):R D:=if xo<=f then (match X (f - xo) ds h with
  |some (c,h')=>.ok (.int c) h'
  |none=>.bad)else .bad
def runs(F:List Fn)(w:Nat):Nat->aE×di
 |0=>(λ_ _ _=>.bad,λ_ _ _=>none)
 |n+1=>
  let X:di:=λf ds h=>match F[f]? with
   |some a=>if ds.length=a.np then xss (runs F w n).1 (runs F w n).2 w a.body (cW a ds) h else none
   |none=>none
  (λf ds h=>match F[f]? with
   |some a=>if ds.length=a.np then endOf (exs (runs F w n).1 w a.body (cW a ds) h)else .bad
   |none=>nv X f ds h,X)
def run(F:List Fn)(w n:Nat):aE:=(runs F w n).1
def dP(F:List Fn)(w n:Nat):di:=(runs F w n).2
def fy(F:List Fn)(w n f:Nat)(ds:T1)(h:Hh):run F w (n+1) f ds h=match F[f]? with
  |some a=>if ds.length=a.np then endOf (exs (run F w n) w a.body (cW a ds) h)else .bad
  |none=>nv (dP F w (n+1)) f ds h:=rfl
def iW(F:List Fn)(w n f:Nat)(ds:T1)(h:Hh):dP F w (n+1) f ds h=match F[f]? with
  |some a=>if ds.length=a.np then xss (run F w n) (dP F w n) w a.body (cW a ds) h else none
  |none=>none:=rfl
mutual
noncomputable def uV(rz:Ξ):E->Bool
 |.cl f a=>!rz.contains f&&HQ rz a
 |_=>true
noncomputable def HQ(rz:Ξ):Es->Bool
 |.nil=>true
 |.cons e a=>uV rz e&&HQ rz a
end
mutual
noncomputable def wQ(rz:Ξ):S->Bool
 |.eG c=>decide (9<=c)
 |.set _ e=>uV rz e
 |.exp e=>uV rz e
 |.ret e=>uV rz e
 |.iff t a b=>uV rz t&&(nT rz a&&nT rz b)
 |_=>true
noncomputable def nT(rz:Ξ):Ss->Bool
 |.nil=>true
 |.cons s a=>wQ rz s&&nT rz a
end
section
variable{P:aE}{X:di}{w:Nat}{rz:Ξ}(hz:∀f,rz.contains f=false->∀ds h,X f ds h=none)
include hz
mutual
theorem tV:∀(e:E) {fr:Fr}{h:Hh},uV rz e=true->xe P X e fr h=none
 |.cl f es,fr,h,z=>by
  simp only[uV,yK,Z8]at z;simp only[xe];split
  .exact hz f z.1 _ _
  .exact MQ es z.2
 |.ix _ _,_,_,_=>rfl|.me _ _ _,_,_,_=>rfl
 |.tup _,_,_,_=>rfl|.comp _ _ _ _,_,_,_=>rfl|.iU _,_,_,_=>rfl
 |.c _,_,_,_=>rfl|.v _,_,_,_=>rfl|.lst _,_,_,_=>rfl
 |.bin _ _ _,_,_,_=>rfl|.cmp _ _ _,_,_,_=>rfl
 |.nt _,_,_,_=>rfl|.neg _,_,_,_=>rfl|.an _ _,_,_,_=>rfl|.orr _ _,_,_,_=>rfl|.iT _ _ _,_,_,_=>rfl
 |.sl _ _ _,_,_,_=>rfl
 |.bi _ _,_,_,_=>rfl
 |.gZ _,_,_,_=>rfl
 |.gf,_,_,_=>rfl|.jP _ _,_,_,_=>rfl|.jQ _ _ _,_,_,_=>rfl
theorem MQ:∀(es:Es) {fr:Fr}{h:Hh},HQ rz es=true->xa P X es fr h=none
 |.nil,_,_,_=>rfl
 |.cons e es,fr,h,z=>by
  simp only[HQ,yK]at z;simp only[xa];split
  .exact MQ es z.2
  .exact tV e z.1
end
mutual
theorem VW:∀(s:S) {fr:Fr}{h:Hh},wQ rz s=true->xs P X w s fr h=none
 |.eG c,_,_,z=>by simp only[wQ,aac]at z;simp only[xs];rw[Yl (by lia)]
 |.set i e,fr,h,z=>by simp only[wQ]at z;simp only[xs];exact tV hz e z
 |.exp e,fr,h,z=>by simp only[wQ]at z;simp only[xs];exact tV hz e z
 |.ret e,fr,h,z=>by simp only[wQ]at z;simp only[xs];exact tV hz e z
 |.iff t a b,fr,h,z=>by
  simp only[wQ,yK]at z;simp only[xs];split
  .split
   .exact rE a z.2.1
   .exact rE b z.2.2
  .exact tV hz t z.1
 |.for _ _ _,_,_,_=>rfl|.lX _ _,_,_,_=>rfl
 |.dput _ _ _,_,_,_=>rfl
 |.j0 _ _,_,_,_=>rfl|.gT _ _ _ _,_,_,_=>rfl
 |.tr _ _ _,_,_,_=>rfl
theorem rE:∀(s:Ss) {fr:Fr}{h:Hh},nT rz s=true->xss P X w s fr h=none
 |.nil,_,_,_=>rfl
 |.cons s ss,fr,h,z=>by
  simp only[nT,yK]at z;simp only[xss];split
  .exact rE ss z.2
  .rfl
  .exact VW s z.1
end
end
def pZ(rz:Ξ):Nat->List Fn->Bool
 |_,[]=>true
 |k,fn :: r=>(rz.contains k ||nT rz fn.body)&&pZ rz (k+1) r
theorem pZ.get:∀{F:List Fn}{k f:Nat}{fn:Fn},pZ rz k F=true->F[f]?=some fn->rz.contains (k+f)=false->nT rz fn.body=true
 |_ :: r,k,0,fn,z,e,n=>by
  simp only[pZ,yK,aaf]at z;cases e;rcases z.1 with z|z
  .rw[Nat.add_zero,z]at n;cases n
  .exact z
 |_ :: r,k,f+1,fn,z,e,n=>by
  simp only[pZ,yK]at z;exact pZ.get z.2 (by simpa using e) (by rw[show k+1+f=k+(f+1)by lia];exact n)
theorem zB(hF:pZ rz 0 F=true)(w:Nat):∀(n f:Nat),rz.contains f=false->∀ds h,dP F w n f ds h=none
 |0,_,_,_,_=>rfl
 |n+1,f,k,ds,h=>by
  rw[iW];cases y:F[f]? with
  |none=>rfl
  |some a=>
   simp only;split
   .exact rE (zB hF w n) _ (pZ.get hF y (by rw[acH];exact k))
   .rfl
section
variable{P:aE}{X:di}{w:Nat}(hX:∀f ds h r,X f ds h=some r->P f ds h=.bad)
include hX
mutual
theorem g8:∀(e:E) {fr:Fr}{h:Hh}{r:Nat×Hh},xe P X e fr h=some r->ev P e fr h=.bad/\bu P e fr h=.bad
 |.cl f es,fr,h,r,z=>by
  simp only[xe]at z;have q:ev P (.cl f es) fr h=.bad:=by
   rw[ev];cases y:bY P es fr h with
   |ok ds a=>rw[y]at z;exact hX _ _ _ _ z
   |bad=>rfl
  exact⟨q,by rw[eN rfl,q];rfl⟩
 |.ix _ _,_,_,_,z=>nomatch z|.me _ _ _,_,_,_,z=>nomatch z
 |.tup _,_,_,_,z=>nomatch z|.comp _ _ _ _,_,_,_,z=>nomatch z|.iU _,_,_,_,z=>nomatch z
 |.c _,_,_,_,z=>nomatch z|.v _,_,_,_,z=>nomatch z|.lst _,_,_,_,z=>nomatch z
 |.bin _ _ _,_,_,_,z=>nomatch z|.cmp _ _ _,_,_,_,z=>nomatch z
 |.nt _,_,_,_,z=>nomatch z|.neg _,_,_,_,z=>nomatch z|.an _ _,_,_,_,z=>nomatch z|.orr _ _,_,_,_,z=>nomatch z|.iT _ _ _,_,_,_,z=>nomatch z
 |.sl _ _ _,_,_,_,z=>nomatch z
 |.bi _ _,_,_,_,z=>nomatch z
 |.gZ _,_,_,_,z=>nomatch z
 |.gf,_,_,_,z=>nomatch z|.jP _ _,_,_,_,z=>nomatch z|.jQ _ _ _,_,_,_,z=>nomatch z
theorem CW:∀(es:Es) {fr:Fr}{h:Hh}{r:Nat×Hh},xa P X es fr h=some r->bY P es fr h=.bad
 |.nil,_,_,_,z=>nomatch z
 |.cons e es,fr,h,r,z=>by
  simp only[xa]at z;rw[bY];cases y:ev P e fr h with
  |ok d a=>rw[y]at z;simp only[ao];rw[CW es z];rfl
  |bad=>rfl
end
mutual
theorem nU:∀(s:S) {fr:Fr}{h:Hh}{r:Nat×Hh},xs P X w s fr h=some r->ex P w s fr h=.bad
 |.eG c,_,_,_,_=>by rw[ex]
 |.set i e,fr,h,r,z=>by rw[ex,(g8 hX e z).1];rfl
 |.exp e,fr,h,r,z=>by rw[ex,(g8 hX e z).1];rfl
 |.ret e,fr,h,r,z=>by rw[ex,(g8 hX e z).1];rfl
 |.iff t a b,fr,h,r,z=>by
  simp only[xs]at z;rw[ex];cases y:bu P t fr h with
  |bad=>rfl
  |ok k d=>
   rw[y]at z;simp only at z;simp only[ao];cases k with
   |true=>exact gI a z
   |false=>exact gI b z
 |.for _ _ _,_,_,_,z=>nomatch z|.lX _ _,_,_,_,z=>nomatch z
 |.dput _ _ _,_,_,_,z=>nomatch z
 |.j0 _ _,_,_,_,z=>nomatch z|.gT _ _ _ _,_,_,_,z=>nomatch z
 |.tr _ _ _,_,_,_,z=>nomatch z
theorem gI:∀(s:Ss) {fr:Fr}{h:Hh}{r:Nat×Hh},xss P X w s fr h=some r->exs P w s fr h=.bad
 |.nil,_,_,_,z=>nomatch z
 |.cons s ss,fr,h,r,z=>by
  simp only[xss]at z;rw[exs];split at z
  .rename_i e;rw[e];exact gI ss z
  .cases z
  .rw[nU s z];rfl
end
end
theorem qw(F:List Fn)(w:Nat):∀(n f:Nat) (ds:T1) (h:Hh) (r:Nat×Hh),dP F w n f ds h=some r->run F w n f ds h=.bad
 |0,_,_,_,_,_=>rfl
 |n+1,f,ds,h,r,z=>by
  rw[iW]at z;rw[fy];cases y:F[f]? with
  |none=>rw[y]at z;cases z
  |some a=>
   rw[y]at z;simp only at z ⊢;split at z
   .rename_i k;rw[gV k,gI (qw F w n) _ z];rfl
   .cases z
end Ev
namespace Sm
open PySem PySem.Spec PyProof.Rows L2
def bF(l:Ξ):Str:=⟨l.toArray⟩
def gK(l:Ξ):(bF l).length=l.length:=by simp[bF,Str.length]
def zC(h:bF a=bF b):a=b:=by
 have c:a.toArray=b.toArray:=ZJ Str.cps h;simpa using ZJ Array.toList c
def rF:Ev.big=sizeLine:=by rfl
section
variable(K:Ψ)
mutual
def RV(H:Hp)(r:Y2):Ev.D->V->Prop
 |.aU,v=>v=.aU
 |.bl b,v=>v=.bl b
 |.int i,v=>v=.int i
 |.str s,v=>v=.str (bF s)/\s.length<=sizeLine
 |.ref n,v=>∃a,v=.ref a/\r[n]?=some a
 |.tup ds,v=>∃a vs,v=.ref a/\dN K H a vs/\aT H r ds vs
def aT(H:Hp)(r:Y2):List Ev.D->List V->Prop
 |[],vs=>vs=[]
 |d :: ds,vs=>∃v w,vs=v :: w/\RV H r d v/\aT H r ds w
end
def Bk(H:Hp)(a:Addr)(vs:Ty):Prop:=(∃o,H a=some (.bQ o (.lst vs)))\/
 ∃(o:Obj) (its:Array Value) (n:Nat),K.lookup a=some o/\o.cls=.type "list" /\o.dict=none/\o.data=.seq its n/\its.size<=sizeLine/\Vals vs its.toList
def dQ(kvs:Θ):List (Key×V):=kvs.map λp=>(Sum.inl p.1,V.str (bF p.2))
def RO(H:Hp)(r:Y2):Ev.O->Addr->Prop
 |.lst ds,a=>∃vs,H a=some (.lst vs)/\aT K H r ds vs
 |.bQ ds,a=>∃vs,Bk K H a vs/\aT K H r ds vs
 |.dct kvs,a=>H a=some (.dK (dQ kvs))/\∀p∈kvs,p.2.length<=sizeLine
structure HR(H:Hp)(r:Y2)(h:Ev.Hh):Prop where
 len:r.length=h.length
 ob:∀(n:Nat) o,h[n]?=some o->∃a,r[n]?=some a/\RO K H r o a
 inj:∀(n m:Nat) a x y,r[n]?=some a->r[m]?=some a->h[n]?=some (.lst x)->h[m]?=some (.lst y)->n=m
 kD:∀(n m:Nat) a x y,r[n]?=some a->r[m]?=some a->h[n]?=some (.dct x)->h[m]?=some (.dct y)->n=m
structure Fm(r r':Y2)(H H':Hp):Prop where
 pre:∀(n:Nat) a,r[n]?=some a->r'[n]?=some a
 new:∀a∈r',a∈r\/H a=none
 keep:∀a o,H a=some o->a∉r->H' a=some o
 tups:∀a vs,dN K H a vs->dN K H' a vs
end
section
variable{K:Ψ}{H H1 H2:Hp}{r r1 r2:Y2}{h:Ev.Hh}
def Fm.refl:Fm K r r H H:=⟨λ_ _ e=>e,λ_ e=>.inl e,λ_ _ e _=>e,λ_ _ e=>e
 ⟩
def Fm.trans(a:Fm K r r1 H H1)(b:Fm K r1 r2 H1 H2):Fm K r r2 H H2 where
 pre:=λn x e=>b.pre n x (a.pre n x e)
 new:=λx e=>by
  rcases b.new x e with q|q
  .exact a.new x q
  .by_cases z:x∈r
   .exact .inl z
   .refine .inr ?_;cases w:H x with
    |none=>rfl
    |some o=>rw[a.keep x o w z]at q;exists q
 keep:=λx o e n=>by
  refine b.keep x o (a.keep x o e n) λz=>?_;rcases a.new x z with q|q
  .exact n q
  .rw[e]at q;exists q
 tups:=λx c e=>b.tups x c (a.tups x c e)
mutual
theorem RV.grow(f:∀(n:Nat) a,r[n]?=some a->r1[n]?=some a)(g:∀a vs,dN K H a vs->dN K H1 a vs):∀{d:Ev.D}{v:V},RV K H r d v->RV K H1 r1 d v
 |.aU,_,e=>e
 |.bl _,_,e=>e
 |.int _,_,e=>e
 |.str _,_,e=>e
 |.ref n,_,⟨a,e,z⟩=>⟨a,e,f n a z⟩
 |.tup ds,_,⟨a,vs,e,z,q⟩=>⟨a,vs,e,g a vs z,aT.grow f g q⟩
theorem aT.grow(f:∀(n:Nat) a,r[n]?=some a->r1[n]?=some a)(g:∀a vs,dN K H a vs->dN K H1 a vs):∀{ds:List Ev.D}{vs:Ty},aT K H r ds vs->aT K H1 r1 ds vs
 |[],_,e=>e
 |_ :: _,_,⟨v,w,e,z,q⟩=>⟨v,w,e,RV.grow f g z,aT.grow f g q⟩
end
def RV.mono(f:Fm K r r1 H H1)(q:RV K H r d v):RV K H1 r1 d v:=q.grow f.pre f.tups
def aT.mono(f:Fm K r r1 H H1)(q:aT K H r ds vs):aT K H1 r1 ds vs:=q.grow f.pre f.tups
def aT.nil:aT K H r [] []:=by simp[aT]
def aT.cons(a:RV K H r d v)(b:aT K H r ds vs):aT K H r (d :: ds) (v :: vs):=by
 exact⟨v,vs,rfl,a,b⟩
theorem aT.length:∀{ds:List Ev.D}{vs:Ty},aT K H r ds vs->vs.length=ds.length
 |[],_,e=>by subst e;rfl
 |_ :: _,_,e=>by
  obtain⟨v,w,rfl,_,q⟩:=e;simp[aT.length q]
theorem aT.get:∀{ds:List Ev.D}{vs:Ty}{i:Nat}{d:Ev.D},aT K H r ds vs->ds[i]?=some d->∃v,vs[i]?=some v/\RV K H r d v
 |[],_,_,_,_,e=>by simp at e
 |_ :: _,_,0,_,h,e=>by
  obtain⟨v,w,rfl,z,q⟩:=h;simp at e;subst e;exact⟨v,by simp,z⟩
 |_ :: _,_,i+1,_,h,e=>by
  obtain⟨v,w,rfl,z,q⟩:=h;obtain⟨u,a,b⟩:=aT.get q (by simpa using e);exact⟨u,by simpa using a,b⟩
theorem aT.append:∀{ds es:List Ev.D}{vs I:Ty},aT K H r ds vs->aT K H r es I->aT K H r (ds++es) (vs++I)
 |[],_,_,_,a,b=>by subst a;simpa using b
 |_ :: _,_,_,_,a,b=>by
  obtain⟨v,w,rfl,z,q⟩:=a;exact .cons z (aT.append q b)
theorem aT.take:∀{ds:List Ev.D}{vs:Ty}(n:Nat),aT K H r ds vs->aT K H r (ds.take n) (vs.take n)
 |_,_,0,_=>by simp[aT]
 |[],_,_+1,a=>by subst a;simp[aT]
 |_ :: _,_,n+1,a=>by
  obtain⟨v,w,rfl,z,q⟩:=a;exact .cons z (aT.take n q)
theorem aT.drop:∀{ds:List Ev.D}{vs:Ty}(n:Nat),aT K H r ds vs->aT K H r (ds.drop n) (vs.drop n)
 |_,_,0,a=>by simpa using a
 |[],_,_+1,a=>by subst a;simp[aT]
 |_ :: _,_,n+1,a=>by
  obtain⟨v,w,rfl,z,q⟩:=a;exact aT.drop n q
theorem aT.reverse:∀{ds:List Ev.D}{vs:Ty},aT K H r ds vs->aT K H r ds.reverse vs.reverse
 |[],_,a=>by subst a;simp[aT]
 |_ :: _,_,a=>by
  obtain⟨v,w,rfl,z,q⟩:=a;simp only[Z0];exact(aT.reverse q).append (.cons z .nil)
theorem aT.rep(a:aT K H r ds vs):∀k:Nat,aT K H r (Ev.rep k ds) (Ev.rep k vs)
 |0=>by simp[Ev.rep,aT]
 |k+1=>by
  have h:=aT.rep a k;exact a.append h
def Fm.laid(z:H p=none):Fm K r (r++[p]) H (upd H p o) where
 pre:=λn a e=>by rw[oW (gL e).1];exact e
 new:=λa e=>by
  rcases kS e with q|q
  .exact .inl q
  .rw[aai]at q;subst q;exact .inr z
 keep:=λa b e _=>by rw[aV (bG e z)];exact e
 tups:=λa c e=>by
  rcases e with (e|⟨b,e⟩)|e
  .exact .inl (.inl (by rw[aV (bG e z)];exact e))
  .exact .inl (.inr ⟨b,by rw[aV (bG e z)];exact e⟩)
  .exact .inr e
def Fm.tup(z:H p=none):Fm K r r H (upd H p o) where
 pre:=λn a e=>e
 new:=λa e=>.inl e
 keep:=λa b e _=>by rw[aV (bG e z)];exact e
 tups:=(Fm.laid (r:=r) z).tups
theorem RO.mono(f:Fm K r r1 H H1)(q:RO K H r o a)(I:∀ds vs,o=.lst ds->H a=some (.lst vs)->H1 a=some (.lst vs))(Z:∀ob vs,H a=some (.bQ ob vs)->H1 a=some (.bQ ob vs))(hd:∀kvs vs,o=.dct kvs->H a=some (.dK vs)->H1 a=some (.dK vs)): RO K H1 r1 o a:=by
 cases o with
 |lst ds=>
  obtain⟨vs,e,z⟩:=q;exact⟨vs,I ds vs rfl e,z.mono f⟩
 |bQ ds=>
  obtain⟨vs,e,z⟩:=q;refine⟨vs,?_,z.mono f⟩;rcases e with ⟨ob,e⟩|e
  .exact .inl ⟨ob,Z _ _ e⟩
  .exact .inr e
 |dct kvs=>exact⟨hd kvs _ rfl q.1,q.2⟩
theorem HR.tup(hr:HR K H r h)(I:H p=none):HR K (upd H p o) r h where
 len:=hr.len
 ob:=λn ob e=>by
  obtain⟨a,b,q⟩:=hr.ob n ob e;exact⟨a,b,q.mono (Fm.tup I) (λ_ c _ z=>by rw[aV (bG z I)];exact z) (λ_ _ z=>by rw[aV (bG z I)];exact z)
   (λ_ _ _ z=>by rw[aV (bG z I)];exact z)
   ⟩
 inj:=hr.inj
 kD:=hr.kD
def HR.MR(hr:HR K H r h):∀(n m:Nat) a x y,(r++[p])[n]?=some a->(r++[p])[m]?=some a->(h++[Ev.O.lst ds])[n]?=some (.dct x)->(h++[Ev.O.lst ds])[m]?=some (.dct y)->n=m:=λn m a x y c d e f=>by
 have out:∀(k:Nat) z,(h++[Ev.O.lst ds])[k]?=some (.dct z)->(r++[p])[k]?=some a->r[k]?=some a/\h[k]?=some (.dct z):=λk z b g=>by
  by_cases i:k<h.length
  .rw[oW i]at b;rw[oW (by rw[hr.len];exact i)]at g;exact⟨g,b⟩
  .have j:=(gL b).1;simp only[Zx,ZS]at j;have l:k=h.length:=by lia
   subst l;simp at b
 exact hr.kD n m a x y (out n x e c).1 (out m y f d).1 (out n x e c).2 (out m y f d).2
theorem HR.lst(hr:HR K H r h)(Z:H p=none)(q:aT K H r ds vs):HR K (upd H p (.lst vs)) (r++[p]) (h++[.lst ds]) where
 len:=by simp[hr.len]
 ob:=λn ob e=>by
  by_cases I:n<h.length
  .rw[oW I]at e;obtain⟨a,i,z⟩:=hr.ob n ob e;exact⟨a,(Fm.laid (K:=K) (o:=.lst vs) Z).pre n a i,z.mono (Fm.laid Z) (λ_ vs _ z=>by rw[aV (bG z Z)];exact z) (λ_ _ z=>by rw[aV (bG z Z)];exact z)
    (λ_ _ _ z=>by rw[aV (bG z Z)];exact z)
    ⟩
  .have d:=(gL e).1;simp only[Zx,ZS]at d;have j:n=h.length:=by lia
   subst j;simp at e;subst e;exact⟨p,by rw[<-hr.len];simp,vs,e8,q.mono (Fm.laid Z)⟩
 inj:=λn m a x y i d j C=>by
  have out:∀(k:Nat) z,(h++[Ev.O.lst ds])[k]?=some (.lst z)->(r++[p])[k]?=some a->(k<h.length/\r[k]?=some a/\h[k]?=some (.lst z)/\a≠p)\/(k=h.length/\a=p):=λk z f c=>by
   by_cases l:k<h.length
   .rw[oW l]at f;rw[oW (by rw[hr.len];exact l)]at c;obtain⟨b,g,J,A,_⟩:=hr.ob k _ f;rw[c]at g;exists g;exact .inl ⟨l,c,f,bG A Z⟩
   .have g:=(gL f).1;simp only[Zx,ZS]at g;have A:k=r.length:=by rw[hr.len];lia
    subst A;simp at c;exact .inr ⟨hr.len,c.symm⟩
  rcases out n x j i with ⟨F,B,L,M⟩|⟨F,B⟩
  .rcases out m y C d with ⟨k1,k2,k3,G⟩|⟨k1,k2⟩
   .exact hr.inj n m a x y B k2 L k3
   .exact absurd k2 M
  .rcases out m y C d with ⟨k1,k2,k3,G⟩|⟨k1,k2⟩
   .exact absurd B G
   .rw[F,k1]
 kD:=hr.MR
theorem HR.dct{n:Nat}(hr:HR K H r h)(e:h[n]?=some (.dct kvs)):∃a,r[n]?=some a/\H a=some (.dK (dQ kvs))/\∀p∈kvs,p.2.length<=sizeLine:=by
 obtain⟨a,b,c,d⟩:=hr.ob n _ e;exact⟨a,b,c,d⟩
def HR.read(hr:HR K H r h)(e:Ev.bw h n=some ds):∃a vs,r[n]?=some a/\fJ K H a vs/\aT K H r ds vs:=by
 unfold Ev.bw at e;split at e
 .rename_i z
  exists e
  obtain⟨a,c,vs,b,d⟩:=hr.ob n _ z;exact⟨a,vs,c,.inl (.inl b),d⟩
 .rename_i z
  exists e
  obtain⟨a,c,vs,b,d⟩:=hr.ob n _ z;refine⟨a,vs,c,?_,d⟩;rcases b with ⟨f,b⟩|b
  .exact .inl (.inr ⟨f,b⟩)
  .exact .inr b
 ·exists e
def Fm.write(I:H a=some (.lst vs))(Z:a∈r):Fm K r r H (upd H a (.lst ws)) where
 pre:=λn b e=>e
 new:=λb e=>.inl e
 keep:=λb c e n=>by rw[aV (λz=>n (by rw[z];exact Z))];exact e
 tups:=λb d e=>by
  rcases e with (e|⟨c,e⟩)|e
  .exact .inl (.inl (by rw[aV (iQ e I (by intro z;exists z))];exact e))
  .exact .inl (.inr ⟨c,by rw[aV (iQ e I (by intro z;exists z))];exact e⟩)
  .exact .inr e
theorem HR.write(hr:HR K H r h)(Z:h[n]?=some (.lst ds))(wR:r[n]?=some a)(ha:H a=some (.lst vs))(q:aT K H r es ws):
  HR K (upd H a (.lst ws)) r (h.set n (.lst es)) where
 len:=by simp[hr.len]
 ob:=λm ob e=>by
  have f:=Fm.write (K:=K) (ws:=ws) ha (ZA wR);by_cases i:m=n
  .subst i;rw[Jb (gL Z).1]at e
   exists e
   exact⟨a,wR,ws,e8,q.mono f⟩
  .rw[AN (λz=>i z.symm)]at e;obtain⟨b,d,z⟩:=hr.ob m ob e;refine⟨b,d,z.mono f (λWX A C c=>?_) (λWY A c=>by rw[aV (iQ c ha (by intro z;exists z))];exact c)
    (λ_ A _ c=>by rw[aV (iQ c ha (by intro z;exists z))];exact c)
    ⟩
   by_cases B:b=a
   .subst B;subst C;exact absurd (hr.inj m n b WX ds d wR e Z) i
   .rw[aV B];exact c
 inj:=λk m b x y d l o p=>by
  have back:∀(j:Nat) z,(h.set n (Ev.O.lst es))[j]?=some (.lst z)->∃z',h[j]?=some (.lst z'):=λj z w=>by
   by_cases g:j=n
   .subst g;exact⟨ds,Z⟩
   .rw[AN (λz=>g z.symm)]at w;exact⟨z,w⟩
  obtain⟨F,G⟩:=back k x o;obtain⟨I,J⟩:=back m y p;exact hr.inj k m b F I d l G J
 kD:=λk m b x y d l o p=>by
  have back:∀(j:Nat) z,(h.set n (Ev.O.lst es))[j]?=some (.dct z)->h[j]?=some (.dct z):=λj z w=>by
   by_cases g:j=n
   .subst g;rw[Jb (gL Z).1]at w;cases w
   .rw[AN (λz=>g z.symm)]at w;exact w
  exact hr.kD k m b x y d l (back k x o) (back m y p)
def iX(I:H p=some (.lst vs)):∀a us,dN K H a us->dN K (upd H p (.lst Z)) a us:=λb us e=>by
 rcases e with (e|⟨ob,e⟩)|e
 .exact .inl (.inl (by rw[aV (iQ e I (by intro z;exists z))];exact e))
 .exact .inl (.inr ⟨ob,by rw[aV (iQ e I (by intro z;exists z))];exact e⟩)
 .exact .inr e
def HR.other(hr:HR K H r h)(I:H p=some (.lst vs))(Z:p∉r):HR K (upd H p (.lst ws)) r h where
 len:=hr.len
 ob:=λn ob e=>by
  obtain⟨a,g,q⟩:=hr.ob n ob e;have c:a≠p:=λz=>Z (by rw[<-z];exact ZA g);refine⟨a,g,?_⟩;cases ob with
  |lst ds=>
   obtain⟨d,b,f⟩:=q;exact⟨d,by rw[aV c];exact b,f.grow (λ_ _ z=>z) (iX I)⟩
  |bQ ds=>
   obtain⟨d,b,f⟩:=q;refine⟨d,?_,f.grow (λ_ _ z=>z) (iX I)⟩;rcases b with ⟨o,b⟩|b
   .exact .inl ⟨o,by rw[aV c];exact b⟩
   .exact .inr b
  |dct i=>exact⟨by rw[aV c];exact q.1,q.2⟩
 inj:=hr.inj
 kD:=hr.kD
def Fm.other(f:Fm K r r1 H H1)(h0:H p=none)(z:H1 p=some (.lst vs)):Fm K r r1 H (upd H1 p (.lst I)) where
 pre:=f.pre
 new:=f.new
 keep:=λa o e n=>by rw[aV (bG e h0)];exact f.keep a o e n
 tups:=λa b e=>iX z a b (f.tups a b e)
def Fm.Bm(f:Fm K r r1 H H1)(I:H p=some o)(Z:p∉r):p∉r1/\H1 p=some o:=by
 refine⟨λz=>?_,f.keep p o I Z⟩;rcases f.new p z with q|q
 .exact Z q
 .rw[I]at q;exists q
def HR.known(hr:HR K H r h)(Z:H p=some (.lst vs))(hn:p∉r)(q:aT K H r ds vs):HR K H (r++[p]) (h++[.lst ds]):=by
 have b:∀(n:Nat) a,r[n]?=some a->(r++[p])[n]?=some a:=λn a e=>by rw[oW (gL e).1];exact e
 refine⟨by simp[hr.len],λn A e=>?_,λn m a x y i c d B=>?_
  ,hr.MR
  ⟩
 .by_cases f:n<h.length
  .rw[oW f]at e;obtain⟨a,i,z⟩:=hr.ob n A e;refine⟨a,b n a i,?_⟩;cases A with
   |lst ds=>obtain⟨j,c,d⟩:=z;exact⟨j,c,d.grow b λ_ _ z=>z⟩
   |bQ ds=>obtain⟨j,c,d⟩:=z;exact⟨j,c,d.grow b λ_ _ z=>z⟩
   |dct G=>exact z
  .have c:=(gL e).1;simp only[Zx,ZS]at c;have d:n=h.length:=by lia
   subst d;simp at e;subst e;exact⟨p,by rw[<-hr.len];simp,vs,Z,q.grow b λ_ _ z=>z⟩
 .have out:∀(k:Nat) z,(h++[Ev.O.lst ds])[k]?=some (.lst z)->(r++[p])[k]?=some a->(k<h.length/\r[k]?=some a/\h[k]?=some (.lst z)/\a≠p)\/(k=h.length/\a=p):=λk z l g=>by
   by_cases f:k<h.length
   .rw[oW f]at l;rw[oW (by rw[hr.len];exact f)]at g;exact .inl ⟨f,g,l,λz=>hn (by rw[<-z];exact ZA g)⟩
   .have I:=(gL l).1;simp only[Zx,ZS]at I;have J:k=r.length:=by rw[hr.len];lia
    subst J;simp at g;exact .inr ⟨hr.len,g.symm⟩
  rcases out n x d i with ⟨C,o,L,M⟩|⟨C,o⟩
  .rcases out m y B c with ⟨k1,k2,k3,F⟩|⟨k1,k2⟩
   .exact hr.inj n m a x y o k2 L k3
   .exact absurd k2 M
  .rcases out m y B c with ⟨k1,k2,k3,F⟩|⟨k1,k2⟩
   .exact absurd o F
   .rw[C,k1]
def Fm.known(f:Fm K r r1 H H1)(h0:H p=none):Fm K r (r1++[p]) H H1 where
 pre:=λn a e=>by
  have b:=f.pre n a e;rw[oW (gL b).1];exact b
 new:=λa e=>by
  rcases kS e with q|q
  .exact f.new a q
  .rw[aai]at q;subst q;exact .inr h0
 keep:=f.keep
 tups:=f.tups
end
open Ev (D O Hh Fr R aE E Es Eo It T S Ss Fl Src bA br TY BI ME)
section
variable(K:Ψ)
def Res(r:Y2)(H:Hp)(h':Hh)(d:D)(Q:VK):Prop:=∀v H' r',RV K H' r' d v->HR K H' r' h'->Fm K r r' H H'->Q v H'
structure SR(m:Ξ)(H:Hp)(r:Y2)(fr:Fr)(s:L2.St):Prop where
 len:s.length=m.length
 sl:∀(j i:Nat) d,m[j]?=some i->fr[i]?=some (some d)->∃v,s[j]?=some (some v)/\RV K H r d v
inductive tJ(m:Ξ)(P:aE)(e:E)(s:L2.St)(H:Hp)(Q:VK):Prop
 |mk (r:Y2) (fr:Fr) (h:Hh) (d:D) (h':Hh) (c0:SR K m H r fr s) (c1:HR K H r h) (c2:Ev.ev P e fr h=.ok d h') (c3:Res K r H h' d Q):tJ m P e s H Q
inductive MS(m:Ξ)(P:aE)(e:E)(s:L2.St)(H:Hp)(Q:Bool->Hp->Prop):Prop
 |mk (r:Y2) (fr:Fr) (h:Hh) (k:Bool) (h':Hh) (c0:SR K m H r fr s) (c1:HR K H r h) (c2:Ev.bu P e fr h=.ok k h') (c3:∀H' r',HR K H' r' h'->Fm K r r' H H'->Q k H'):MS m P e s H Q
inductive MT(m:Ξ)(P:aE)(es:Es)(s:L2.St)(H:Hp)(Q:List V->Hp->Prop):Prop
 |mk (r:Y2) (fr:Fr) (h:Hh) (ds:T1) (h':Hh) (c0:SR K m H r fr s) (c1:HR K H r h) (c2:Ev.bY P es fr h=.ok ds h') (c3:∀vs H' r',aT K H' r' ds vs->HR K H' r' h'->Fm K r r' H H'->Q vs H'):MT m P es s H Q
inductive Ti(m:Ξ)(P:aE)(e:Eo)(s:L2.St)(H:Hp)(Q:Option Int->Hp->Prop):Prop
 |mk (r:Y2) (fr:Fr) (h:Hh) (o:Option Int) (h':Hh) (c0:SR K m H r fr s) (c1:HR K H r h) (c2:Ev.iV P e fr h=.ok o h') (c3:∀H' r',HR K H' r' h'->Fm K r r' H H'->Q o H'):Ti m P e s H Q
inductive iY(f:D->D->Hh->R D)(x:V)(y:V)(H:Hp)(Q:VK):Prop
 |mk (r:Y2) (h:Hh) (a:D) (b:D) (d:D) (h':Hh) (c0:HR K H r h) (c1:RV K H r a x) (c2:RV K H r b y) (c3:f a b h=.ok d h') (c4:Res K r H h' d Q):iY f x y H Q
inductive uW(f:List D->Hh->R D)(xs:Ty)(H:Hp)(Q:VK):Prop
 |mk (r:Y2) (h:Hh) (as:T1) (d:D) (h':Hh) (c0:HR K H r h) (c1:aT K H r as xs) (c2:f as h=.ok d h') (c3:Res K r H h' d Q):uW f xs H Q
inductive wU(f:D->List D->Hh->R D)(x:V)(xs:Ty)(H:Hp)(Q:VK):Prop
 |mk (r:Y2) (h:Hh) (a:D) (as:T1) (d:D) (h':Hh) (c0:HR K H r h) (c1:RV K H r a x) (c2:aT K H r as xs) (c3:f a as h=.ok d h') (c4:Res K r H h' d Q):wU f x xs H Q
inductive MU  (x:V) (lo:Option Int) (hi:Option Int) (H:Hp) (Q:VK):Prop
 |mk (r:Y2) (h:Hh) (a:D) (d:D) (h':Hh) (c0:HR K H r h) (c1:RV K H r a x) (c2:Ev.ji a lo hi h=.ok d h') (c3:Res K r H h' d Q):MU x lo hi H Q
end
section
variable{K:Ψ}{m:Ξ}{H H':Hp}{r r':Y2}{fr:Fr}{s:L2.St}{h h':Hh}{d:D}{Q:VK}
theorem SR.mono(a:SR K m H r fr s)(f:Fm K r r' H H'):SR K m H' r' fr s:=⟨a.len,λj i d b c=>by
 obtain⟨v,q,z⟩:=a.sl j i d b c;exact⟨v,q,z.mono f⟩⟩
def Res.here(q:Res K r H h d Q)(a:RV K H r d v)(b:HR K H r h):Q v H:=q v H r a b .refl
def Res.later(q:Res K r H h' d Q)(f:Fm K r r' H H'):Res K r' H' h' d Q:=λv H2 c a b g=>q v H2 c a b (f.trans g)
theorem Res.lst(q:Res K r H h' d Q)(e:Ev.alloc ds h=.ok d h')(a:aT K H r ds vs)(b:HR K H r h):vs.length<=sizeLine/\∀p,H p=none->Q (.ref p) (upd H p (.lst vs)):=by
 unfold Ev.alloc at e;split at e
 .rename_i z
  exists e
  refine⟨by rw[a.length,<-rF];exact z,λp c=>?_⟩;exact q _ _ (r++[p]) ⟨p,rfl,by rw[<-b.len];simp⟩ (b.lst c a) (.laid c)
 ·exists e
theorem Res.tup(q:Res K r H h (.tup ds) Q)(a:aT K H r ds vs)(b:HR K H r h)(z:H p=none):Q (.ref p) (upd H p (.tup vs)):=
 q _ _ r ⟨p,vs,rfl,.of e8,a.mono (.tup z)⟩ (b.tup z) (.tup z)
end
def PE.of(h:PE X e t)(w:∀s H Q,t' s H Q->t s H Q):PE X e t':=λpins s σ H Q I q=>h pins s σ H Q I (w _ _ _ q)
def PT.of(h:PT X e t)(w:∀s H Q,t' s H Q->t s H Q):PT X e t':=λpins s σ H Q I q=>h pins s σ H Q I (w _ _ _ q)
def PW.of(h:PW X e t)(w:∀s H Q,t' s H Q->t s H Q):PW X e t':=λwh pins s σ H Q I q=>h wh pins s σ H Q I (w _ _ _ q)
def PA.of(h:PA X es t)(w:∀s H Q,t' s H Q->t s H Q):PA X es t':=λpos pins s σ H Q I q=>h pos pins s σ H Q I (w _ _ _ q)
def PO.of(h:PO X e t)(w:∀s H Q,t' s H Q->t s H Q):PO X e t':=λpins s σ H Q I q=>h pins s σ H Q I (w _ _ _ q)
structure FI where
 name:Str
 addr:Addr
 fd:FuncData
 ps:Y1
def ny(K:Ψ)(F:List Ev.Fn)(w n f:Nat):Sp:=λa H Q _=>∃r h ds d h',aT K H r ds a/\HR K H r h/\Ev.run F w n f ds h=.ok d h'/\Res K r H h' d Q
def zD(K:Ψ)(d:D)(v:V):Prop:=∀H r,RV K H r d v
def zD.rv{K:Ψ}(h:zD K d v):RV K H r d v:=h H r
structure Tb where
 F:List Ev.Fn
 w:Nat
 fi:List FI
 bl:Y1
 cs:List (Str×D)
 dk:List (Str×List (D×D))
def tabOf:List (D×D)->List (PyData×PyData)
 | (.str k,.str v) :: r=>(.str (bF k),.str (bF v)) :: tabOf r
 |_=>[]
structure Good(G:Tb)(n:Nat)(sc:Scope)(N:Y1)(df:Bool)(X:Cx):Prop where
 nm:X.N=N
 sc:X.env.scope=sc
 calm:X.calm=true
 own:df=true->∀x,X.fn x=true
 room:fL n X.A
 xe:X.xe=λ_ _=>False
 fn:∀(f:Nat) i,G.fi[f]?=some i->X.mg i.name=some (.ref i.addr)/\W.keepIn X.K (.ref i.addr)=true/\Binds X.K i.fd i.ps []/\fc X.prog X.w X.K X.mg X.base lW n i.addr i.fd i.ps (ny X.K G.F G.w n f)
 bl:∀x∈G.bl,X.mg x=none
 cs:∀x d,(x,d)∈G.cs->∃v u,X.mg x=some u/\RelV v u/\zD X.K d v
 dk:∀x kvs,(x,kvs)∈G.dk->∃a,X.mg x=some (.ref a)/\∀h:Heap,X.K.In h->StrTab X.prog X.w h a (tabOf kvs)
section
variable(G:Tb)(n:Nat)(sc:Scope)(N:Y1)(df:Bool)(m:Ξ)
def JE(e:E)(x:Expr):Prop:=∀X,Good G n sc N df X->PE X x (tJ X.K m (Ev.run G.F G.w n) e)
def JT(e:E)(x:Expr):Prop:=∀X,Good G n sc N df X->PT X x (MS X.K m (Ev.run G.F G.w n) e)
def JW(e:E)(x:Expr):Prop:=∀X,Good G n sc N df X->PW X x (MS X.K m (Ev.run G.F G.w n) e)
def JA(es:Es)(xs:Kj):Prop:=∀X,Good G n sc N df X->PA X xs (MT X.K m (Ev.run G.F G.w n) es)
def JO(e:Eo)(x:Option Expr):Prop:=∀X,Good G n sc N df X->PO X x (Ti X.K m (Ev.run G.F G.w n) e)
end
section
variable{G:Tb}{n:Nat}{sc:Scope}{N:Y1}{df:Bool}{m:Ξ}{a b c:E}{xa xb:Expr}{pos:Pos}
def Good.vis(g:Good G n sc N df X)(h:sc.names.lookup x=some .local\/sc.names.lookup x=some .cell\/sc.names.lookup x=some .free):zk X.env.scope x:=by
 rw[g.sc];exact h
def Good.gl(g:Good G n sc N df X)(h:sc.names.lookup x=some .globalImplicit):Gl X x:=by
 unfold Gl Env.kindOf;rw[g.sc];exact h
def VX(j i:Nat){x:Str}(hj:m[j]?=some i:=by rfl)(hN:N[j]?=some x:=by rfl)(hv:autoParam (sc.names.lookup x=some .local\/sc.names.lookup x=some .cell\/sc.names.lookup x=some .free) L2.pv._auto_1)(hd:(x==("__debug__":Str))=false:=by decide)(Z:(x==("__classdict__":Str))=false:=by decide):JE G n sc N df m (.v i) (.Name x pos):=by
 intro X g;refine PE.of (wo (i:=j) (by rw[g.nm];exact hN) (g.vis hv) hd Z) λs H Q q=>?_;obtain⟨r,l,h,d,I,p,y,e,q⟩:=q;obtain⟨f,A⟩:=Ev.aJ e;subst A;obtain⟨v,B,C⟩:=p.sl j i d hj (by
  cases z:l[i]? with
  |none=>rw[z]at f;exists f
  |some o=>
   rw[z]at f;have F:o=some d:=f;rw[F])
 exact⟨v,B,q.here C y⟩
def rG{K:Ψ}(hc:zD K d v):∀s H Q,tJ K m P (.c d) s H Q->tC v s H Q:=λs H Q q=>by
 obtain⟨r,g,h,i,j,l,f,e,q⟩:=q
 exists e
 exact q.here hc.rv f
def MV:JE G n sc N df m (.c (.int i)) (.Constant (.int i) j pos):=λX g=>PE.of L0 (rG λ_ _=>rfl)
def RH:JE G n sc N df m (.c (.bl k)) (.Constant (.bool k) j pos):=λX g=>PE.of HA (rG λ_ _=>rfl)
def MW:JE G n sc N df m (.c .aU) (.Constant .none j pos):=λX g=>PE.of L1 (rG λ_ _=>rfl)
def MX{l:Ξ}{x:Str}{j}(z:x=bF l:=by decide)(I:l.length<=sizeLine:=by decide):JE G n sc N df m (.c (.str l)) (.Constant (.str x) j pos):=
 λX g=>PE.of L3 (rG λ_ _=>by subst z;exact⟨rfl,I⟩)
def JY{x:Str}{d:D}(z:(x,d)∈G.cs)(I:sc.names.lookup x=some .globalImplicit:=by rfl)(hd:(x==("__debug__":Str))=false:=by decide):JE G n sc N df m (.c d) (.Name x pos):=λX g=>by
 obtain⟨v,u,e,f,h⟩:=g.cs x d z;exact PE.of (zm (g.gl I) e f hd) (rG h)
def MY:JA G n sc N df m .nil []:=λX g=>PA.of lU λs H Q q=>by
 obtain⟨r,f,h,ds,i,j,d,e,q⟩:=q
 exists e
 exact q [] H r .nil d .refl
def JZ(ha:JE G n sc N df m a xa)(hs:JA G n sc N df m es xs)(Z:∀env:Env,q5 xa xs env:=by intro _;rfl):JA G n sc N df m (.cons a es) (xa :: xs):=
 λX g=>PA.of (jq (ha X g) (hs X g) (Z _)) λs H Q q=>by
  obtain⟨r,l,h,ds,J,o,y,e,q⟩:=q;obtain⟨d,p,z,e⟩:=Ev.ai e;obtain⟨f,K,A,e⟩:=Ev.ai e
  exists e
  refine⟨r,l,h,d,p,o,y,z,λv H1 B C i f1=>?_⟩;refine⟨B,l,p,f,_,o.mono f1,i,A,λL H2 F I j f2=>?_⟩;exact q _ H2 F (.cons (C.mono f2) I) j (f1.trans f2)
def MZ(Z:JA G n sc N df m es xs):JE G n sc N df m (.tup es) (.Tuple xs k pos):=λX g=>PE.of (Mt (Z X g)) λs H Q q=>by
 obtain⟨r,j,h,d,B,l,o,e,q⟩:=q;obtain⟨ds,C,y,e⟩:=Ev.ai e;split at e
 .rename_i z
  exists e
  refine⟨r,j,h,ds,_,l,o,y,λF H1 I i f f1=>⟨by rw[i.length,<-rF];exact z,λp A=>?_⟩⟩;exact(q.later f1).tup i f A
 ·exists e
def M4(I:JA G n sc N df m es xs):JE G n sc N df m (.lst es) (.List xs pos):=λX g=>PE.of (Mu (I X g)) λs H Q q=>by
 obtain⟨r,i,h,d,z,j,l,e,q⟩:=q;obtain⟨ds,o,p,e⟩:=Ev.ai e;refine⟨r,i,h,ds,o,j,l,p,λA H1 B y f f1=>?_⟩;exact(q.later f1).lst e y f
def rH{K:Ψ}(I:∀fr h,Ev.ev P e' fr h=(Ev.ev P a fr h).bind λx h1=>(Ev.ev P b fr h1).bind λy h2=>f x y h2):
  ∀s H Q,tJ K m P e' s H Q->CB (iY K f) (tJ K m P a) (tJ K m P b) s H Q:=λs H Q q=>by
 obtain⟨r,fr,h,d,l,j,o,e,q⟩:=q;rw[I]at e;obtain⟨x,h1,p,e⟩:=Ev.ai e;obtain⟨y,h2,z,e⟩:=Ev.ai e;refine⟨r,fr,h,x,h1,j,o,p,λv H1 A B g f1=>?_⟩;refine⟨A,fr,h1,y,h2,j.mono f1,g,z,λu H2 C F i f2=>?_⟩;exact⟨C,h2,x,y,d,l,i,B.mono f2,F,e,q.later (f1.trans f2)⟩
def nV(z:∀X,Good G n sc N df X->dJ X (binaryOp op) (iY X.K (Ev.bX o)))(I:JE G n sc N df m a xa)(Z:JE G n sc N df m b xb):JE G n sc N df m (.bin o a b) (.BinOp xa op xb pos):=
 λX g=>PE.of (Rm (z X g) (I X g) (Z X g)) (rH λd h=>by simp only[Ev.ev])
def ju(o:br):D->D->Hh->R D:=λx y h=>R.of ((Ev.cop o x y h).map .bl) h
def nW(z:∀X,Good G n sc N df X->dJ X (compareOp op) (iY X.K (ju o)))(I:JE G n sc N df m a xa)(Z:JE G n sc N df m b xb)(hm:behindInMarks op xb=false):JE G n sc N df m (.cmp o a b) (.Compare xa [op] [xb] pos):=
 λX g=>PE.of (Jy (z X g) (I X g) (Z X g) hm) (rH λd h=>by simp only[Ev.ev,ju])
def kj(e:ju o x y h=.ok d h'):∃k,Ev.cop o x y h=some k/\d=.bl k/\h'=h:=by
 obtain⟨f,rfl⟩:=Ev.aJ e;cases z:Ev.cop o x y h' with
 |none=>rw[z]at f;exists f
 |some k=>rw[z]at f;exists f;exact⟨k,rfl,rfl,rfl⟩
def nX(Z:∀X,Good G n sc N df X->dJ X (compareOp op) (iY X.K (ju o)))(ha:JE G n sc N df m a xa)(hb:JE G n sc N df m b xb)(hm:behindInMarks op xb=false):JT G n sc N df m (.cmp o a b) (.Compare xa [op] [xb] pos):=
 λX g=>PT.of (Jz (Z X g) (ha X g) (hb X g) hm) λs H Q q=>by
  obtain⟨r,j,h,k,I,p,z,e,q⟩:=q;rw[Ev.eN rfl]at e;obtain⟨d,J,l,e⟩:=Ev.ai e;have f:=l;obtain⟨x,L,_,f⟩:=Ev.ai f;obtain⟨y,A,_,f⟩:=Ev.ai f;obtain⟨M,P,B,W⟩:=kj (show ju o x y A=_ from f);subst B;cases e;refine rH (λj h=>by simp only[Ev.ev,ju]) s H _ ⟨r,j,h,.bl k,_,p,z,l,λv H1 C F i f1=>?_⟩;exact⟨k,F,q H1 C i f1⟩
end
section
variable{G:Tb}{n:Nat}{sc:Scope}{N:Y1}{df:Bool}{m:Ξ}{a b c:E}{xa xb xc:Expr}{pos:Pos}
def M5(I:JE G n sc N df m a xa):JE G n sc N df m (.neg a) (.UnaryOp .USub xa pos):=λX g=>PE.of (Rn Mq (I X g)) λs H Q q=>by
 obtain⟨r,i,h,d,y,j,l,e,q⟩:=q;obtain⟨x,z,o,e⟩:=Ev.ai e;split at e
 ·exists e
  exact⟨r,i,h,_,_,j,l,o,λv H1 A p f f1=>⟨_,p,(q.later f1).here rfl f⟩⟩
 ·exists e
def M6(z:JE G n sc N df m a xa):JE G n sc N df m a (.BoolOp op [xa] pos):=λX g=>L7 (z X g)
def RI{rest:Kj}(I:JE G n sc N df m a xa)(Z:JE G n sc N df m b (.BoolOp .And (xb :: rest) pos)):JE G n sc N df m (.an a b) (.BoolOp .And (xa :: xb :: rest) pos):=λX g=>PE.of (L8 (I X g) (Z X g)) λs H Q q=>by
 obtain⟨r,i,h,d,p,j,y,e,q⟩:=q;obtain⟨x,l,z,e⟩:=Ev.ai e;refine⟨r,i,h,x,l,j,y,z,λv H1 A o f f1=>?_⟩;split at e
 .exact⟨true,o,A,i,l,d,p,j.mono f1,f,e,q.later f1⟩
 .cases e;exact⟨false,o,(q.later f1).here rfl f⟩
 ·exists e
def M7(I:JT G n sc N df m a xa)(Z:JE G n sc N df m b xb)(hc:JE G n sc N df m c xc):JE G n sc N df m (.iT a b c) (.IfExp xa xb xc pos):=λX g=>PE.of (EU (I X g) (Z X g) (hc X g)) λs H Q q=>by
 obtain⟨r,i,h,d,o,j,y,e,q⟩:=q;obtain⟨k,l,z,e⟩:=Ev.ai e;refine⟨r,i,h,k,l,j,y,z,λH1 p f f1=>?_⟩;cases k with
 |true=>exact⟨p,i,l,d,o,j.mono f1,f,e,q.later f1⟩
 |false=>exact⟨p,i,l,d,o,j.mono f1,f,e,q.later f1⟩
def M8(h:JW G n sc N df m a xa):JT G n sc N df m a xa:=λX g=>(h X g).pt
def M9(z:JT G n sc N df m a xa):JW G n sc N df m a (.BoolOp .And [xa] pos):=λX g=>Jt (z X g)
def J0(z:JT G n sc N df m a xa):JW G n sc N df m a (.BoolOp .Or [xa] pos):=λX g=>L4 (z X g)
def HS{rest:Kj}(I:JT G n sc N df m a xa)(Z:JW G n sc N df m b (.BoolOp .And (xb :: rest) pos)):JW G n sc N df m (.an a b) (.BoolOp .And (xa :: xb :: rest) pos):=λX g=>PW.of (L5 (I X g) (Z X g)) λs H Q q=>by
 obtain⟨r,i,h,k,p,j,y,e,q⟩:=q;rw[Ev.Ft]at e;obtain⟨k1,l,z,e⟩:=Ev.ai e;refine⟨r,i,h,k1,l,j,y,z,λH1 o d f1=>?_⟩;cases k1 with
 |true=>exact⟨o,i,l,k,p,j.mono f1,d,e,λH2 A f f2=>q H2 A f (f1.trans f2)⟩
 |false=>
  have B:=e
  exists B
  exact q H1 o d f1
def CY{rest:Kj}(I:JT G n sc N df m a xa)(Z:JW G n sc N df m b (.BoolOp .Or (xb :: rest) pos)):JW G n sc N df m (.orr a b) (.BoolOp .Or (xa :: xb :: rest) pos):=λX g=>PW.of (Rg (I X g) (Z X g)) λs H Q q=>by
 obtain⟨r,i,h,k,p,j,y,e,q⟩:=q;rw[Ev.Fv]at e;obtain⟨k1,l,z,e⟩:=Ev.ai e;refine⟨r,i,h,k1,l,j,y,z,λH1 o d f1=>?_⟩;cases k1 with
 |false=>exact⟨o,i,l,k,p,j.mono f1,d,e,λH2 A f f2=>q H2 A f (f1.trans f2)⟩
 |true=>
  have B:=e
  exists B
  exact q H1 o d f1
def RJ(z:JT G n sc N df m a xa):JT G n sc N df m (.nt a) (.UnaryOp .Not xa pos):=λX g=>PT.of (L6 (z X g)) λs H Q q=>by
 obtain⟨r,f,h,k,p,i,j,e,q⟩:=q;rw[Ev.MP]at e;obtain⟨k1,y,l,e⟩:=Ev.ai e
 exists e
 exact⟨r,f,h,k1,_,i,j,l,λH1 o d f1=>q H1 o d f1⟩
def Na{K:Ψ}(hr:HR K H r h)(Z:RV K H r d v)(e:Ev.truthy h d=some k):E4 K v H k:=by
 cases d with
 |aU=>exists e;rfl
 |bl x=>exists e;rfl
 |int x=>exists e;rfl
 |str x=>
  obtain⟨rfl,z⟩:=Z
  exists e
  refine⟨by exact z,?_⟩;rw[gK];cases x with
  |nil=>rfl
  |cons c l=>simp;lia
 |tup ds=>
  obtain⟨p,g,rfl,z,q⟩:=Z
  exists e
  refine .inr (.inl ⟨g,z,?_⟩);have A:=q.length;cases ds<;>cases g<;>simp_all
 |ref i=>
  obtain⟨p,rfl,z⟩:=Z;by_cases Tj:∃f,h[i]?=some (.dct f)
  .obtain⟨f,j⟩:=Tj;simp only[Ev.truthy,j]at e;obtain⟨B,o,C,_⟩:=hr.dct j;rw[z]at o;exists o;refine .inr (.inr ⟨_,C,?_⟩)
   exists e
   cases f<;>rfl
  have F:Ev.truthy h (.ref i)=(Ev.bw h i).map λds=>!ds.isEmpty:=by
   first
    |rfl
    | (simp only[Ev.truthy];split<;>first|rfl | (rename_i f z;first|exact(Tj ⟨f,z⟩).elim|exact(hss ⟨f,z⟩).elim))
  rw[F]at e;simp only[Uw]at e;obtain⟨ds,j,rfl⟩:=e;obtain⟨B,g,y,I,J⟩:=hr.read j;rw[z]at y;exists y;refine .inl ⟨g,I,?_⟩;have A:=J.length;cases ds<;>cases g<;>simp_all
def Nb(I:JE G n sc N df m a xa)(Z:Ev.leaf a=true:=by rfl)(hx:∀(env:Env) whole,isTrue xa env whole=(do let v <-whole;standAt xa.pos;holding [v] (truthy v)):=by intro _ _;rfl):JT G n sc N df m a xa:=λX g=>PT.of (E5 (I X g) (hx _)) λs H Q q=>by
 obtain⟨r,i,h,k,z,j,l,e,q⟩:=q;rw[Ev.eN Z]at e;obtain⟨d,A,o,e⟩:=Ev.ai e;obtain⟨e,rfl⟩:=Ev.aJ e;refine⟨r,i,h,d,_,j,l,o,λv H1 p y f f1=>⟨k,Na f y e,q H1 p f f1⟩⟩
def Nc:D->D->Hh->R D:=λx y h=>R.of (Ev.eK x y h) h
def RK(z:∀X,Good G n sc N df X->zy X (iY X.K Nc))(I:JE G n sc N df m a xa)(Z:JE G n sc N df m b xb)(hs:zx xb:=by intro _ _;rfl):JE G n sc N df m (.ix a b) (.Subscript xa xb pos):=
 λX g=>PE.of (RA (z X g) (I X g) (Z X g) hs) (rH λd h=>by simp only[Ev.ev,Nc])
def RL:JO G n sc N df m .no none:=λX g=>PO.of JH λs H Q q=>by
 obtain⟨r,f,h,o,i,j,d,e,q⟩:=q
 exists e
 exact q H r d .refl
def Nd(I:JE G n sc N df m a xa):JO G n sc N df m (.yes a) (some xa):=λX g=>PO.of (JJ (I X g)) λs H Q q=>by
 obtain⟨r,j,h,o,B,l,p,e,q⟩:=q;obtain⟨d,C,y,e⟩:=Ev.ai e;obtain⟨e,rfl⟩:=Ev.aJ e;cases d with
 |int i=>
  exists e
  exact⟨r,j,h,.int i,_,l,p,y,λv H1 z A f f1=>⟨i,A,q H1 z f f1⟩⟩
 |_=>exists e
def RM{lo hi:Eo}(Z:∀X,Good G n sc N df X->nj X (MU X.K))(ha:JE G n sc N df m a xa)(hl:JO G n sc N df m lo xl)(hu:JO G n sc N df m hi xh):JE G n sc N df m (.sl a lo hi) (.Subscript xa (.Slice xl xh none p2) pos):=
 λX g=>PE.of (E7 (Z X g) (ha X g) (hl X g) (hu X g)) λs H Q q=>by
  obtain⟨r,f,h,d,A,i,B,e,q⟩:=q;obtain⟨x,p,C,e⟩:=Ev.ai e;obtain⟨l,y,F,e⟩:=Ev.ai e;obtain⟨u,z,I,e⟩:=Ev.ai e;refine⟨r,f,h,x,p,i,B,C,λv H1 J L j f1=>?_⟩;refine⟨J,f,p,l,y,i.mono f1,j,F,λH2 M o f2=>?_⟩;refine⟨M,f,y,u,z,(i.mono f1).mono f2,o,I,λH3 P W f3=>?_⟩;exact⟨P,z,x,d,A,W,(L.mono f2).mono f3,e,q.later ((f1.trans f2).trans f3)⟩
def J1{K:Ψ}(I:∀fr h,Ev.ev P e' fr h=(Ev.bY P es fr h).bind f):
  ∀s H Q,tJ K m P e' s H Q->My (uW K f) (MT K m P es) s H Q:=λs H Q q=>by
 obtain⟨r,fr,h,d,j,l,o,e,q⟩:=q;rw[I]at e;obtain⟨ds,i,p,e⟩:=Ev.ai e;exact⟨r,fr,h,ds,i,l,o,p,λA H1 y z g f1=>⟨y,i,ds,d,j,g,z,e,q.later f1⟩⟩
def rJ{k:BI}{es:Es}{x:Str}{id:String}{z:Expr}{xs:Kj}{p:Pos}(hc:∀X,Good G n sc N df X->gn X (.builtin id) (uW X.K (Ev.cQ k)))(hs:JA G n sc N df m es (z :: xs))(hb:x∈G.bl:=by decide)(hg:sc.names.lookup x=some .globalImplicit:=by rfl)(hv:bootBuiltins x=some (.builtin id))(hn:x≠"__name__" :=by decide)(hd:(x==("__debug__":Str))=false:=by decide)(I:∀env:Env,q5 z xs env:=by intro _;rfl)(Z:∀env:Env,q7 pos xs env:=by intro _;rfl):
  JE G n sc N df m (.bi k es) (.Call (.Name x p) (z :: xs) [] pos):=
 λX g=>PE.of (wD (hc X g) (g.gl hg) (g.bl x hb) hv (hs X g) hn hd (I _) (Z _)) (J1 λd h=>by simp only[Ev.ev])
def RN{f:Nat}{i:FI}{es:Es}{Z:Expr}{xs:Kj}{p:Pos}(hf:G.fi[f]?=some i)(hs:JA G n sc N df m es (Z :: xs))(hg:sc.names.lookup i.name=some .globalImplicit:=by rfl)(hd:(i.name==("__debug__":Str))=false:=by decide)(hst:∀env:Env,q5 Z xs env:=by intro _;rfl)(hpl:∀env:Env,q7 pos xs env:=by intro _;rfl):
  JE G n sc N df m (.cl f es) (.Call (.Name i.name p) (Z :: xs) [] pos):=λX g=>by
 obtain⟨o,y,z,A⟩:=g.fn f i hf;refine PE.of (JB A g.room (g.gl hg) o y z .nil RC (hs X g) hd (hst _) (hpl _)) λs H Q q=>?_;obtain⟨r,B,h,d,C,F,I,e,q⟩:=q;obtain⟨ds,l,J,e⟩:=Ev.ai e;refine⟨r,B,h,ds,l,F,I,J,λM H1 K L j f1=>?_⟩;exact⟨K,l,ds,d,C,by rw[ZK];exact L,j,e,q.later f1⟩
def Fw:ME->String
 |.join=>"str"
 |_=>"list"
def CZ{K:Ψ}(hr:HR K H r h)(I:RV K H r d v)(e:Ev.zA k d h=true)(Z:ty=Fw k):CK K ty v H:=by
 subst Z;have lst:∀i,d=.ref i->(Ev.bw h i).isSome=true->CK K "list" v H:=λi g j=>by
  subst g;obtain⟨ds,o⟩:=gN j;obtain⟨p,q,y,z,A⟩:=hr.read o;obtain⟨B,rfl,f⟩:=I;rw[y]at f;exists f;exact .inl ⟨rfl,q,z⟩
 cases k with
 |join=>
  cases d with
  |str l=>obtain⟨rfl,_⟩:=I;rfl
  |_=>exists e
 |append=>cases d with|ref i=>exact lst i rfl e|_=>exists e
 |extend=>cases d with|ref i=>exact lst i rfl e|_=>exists e
 |pop=>cases d with|ref i=>exact lst i rfl e|_=>exists e
def Bo{k:ME}{es:Es}{e0:Expr}{xs:Kj}{name:Str}{apos:Pos}{ty id:String}(pa:PlainAttrs ty)(slot:Slot ty name id)(hty:typeOf (.builtin id)=pure (.type "method_descriptor"))(hm:∀X,Good G n sc N df X->uP X id (wU X.K (Ev.fK k)))(ht:ty=Fw k)(ha:JE G n sc N df m a xa)(hs:JA G n sc N df m es (e0 :: xs))(Z:∀env:Env,wE xa name env:=by intro _;rfl)(hfew:∀env:Env,((backTo pos (starEach (e0 :: xs) env)).all (λx=>!x.1)&&(backToKw pos (keywordEach [] env)).all (λx=>x.1.isSome)
   &&decide ((e0 :: xs).length+([]:List Keyword).length+(if ([]:List Keyword).isEmpty then 0 else 1)<30))=true:=by intro _;rfl)(hline:(apos.endLine==pos.line)=true:=by rfl)(hst:∀env:Env,q5 e0 xs env:=by intro _;rfl)(hpl:∀env:Env,q7 pos xs env:=by intro _;rfl):
  JE G n sc N df m (.me k a es) (.Call (.Attribute xa name apos) (e0 :: xs) [] pos):=λX g=>
 PE.of (RB pa slot hty (hm X g) (ha X g) (hs X g) (Z _) (hfew _) hline (hst _) (hpl _)) λs H Q q=>by
  obtain⟨r,j,h,d,z,l,A,e,q⟩:=q;obtain⟨x,o,B,e⟩:=Ev.ai e;split at e
  .rename_i C;obtain⟨ds,p,F,e⟩:=Ev.ai e;refine⟨r,j,h,x,o,l,A,B,λv H1 I y f f1=>⟨CZ f y C ht,?_⟩⟩;refine⟨I,j,o,ds,p,l.mono f1,f,F,λM H2 J L i f2=>?_⟩;exact⟨J,p,x,ds,d,z,i,y.mono f2,L,e,q.later (f1.trans f2)⟩
  ·exists e
def Nf{k:ME}{name:Str}{apos:Pos}{ty id:String}(pa:PlainAttrs ty)(slot:Slot ty name id)(hty:typeOf (.builtin id)=pure (.type "method_descriptor"))(hm:∀X,Good G n sc N df X->uP X id (wU X.K (Ev.fK k)))(ht:ty=Fw k)(ha:JE G n sc N df m a xa)(I:∀env:Env,wE xa name env:=by intro _;rfl)(Z:(apos.endLine==pos.line)=true:=by rfl):
  JE G n sc N df m (.me k a .nil) (.Call (.Attribute xa name apos) [] [] pos):=λX g=>
 PE.of (MD pa slot hty (hm X g) (ha X g) (I _) Z) λs H Q q=>by
  obtain⟨r,l,h,d,o,p,y,e,q⟩:=q;obtain⟨x,i,z,e⟩:=Ev.ai e;split at e
  .rename_i A;simp only[Ev.bY,Ev.ao]at e;refine⟨r,l,h,x,i,p,y,z,λv H1 B j f f1=>⟨CZ f j A ht,?_⟩⟩;exact⟨B,i,x,[],d,o,f,j,.nil,e,q.later f1⟩
  ·exists e
end
end Sm
namespace Sm
open PySem PySem.Spec PyProof.Rows L2
open Ev (D O Hh Fr R aE E Es Eo T S Ss Fl Src bA br TY BI ME)
def qx(K:Ψ)(z:Y2)(I:Hp)(s:Src)(J:L2.It):Prop:=∀(i:Nat) H1 r1 h1,HR K H1 r1 h1->Fm K z r1 I H1->Ev.stays h1 s.2=true->
 (∀d,s.1[i]?=some d->J.go i H1/\∀x H2,J.HG i H1 x H2->∃r2,RV K H2 r2 d x/\HR K H2 r2 h1/\Fm K r1 r2 H1 H2)/\(s.1.length<=i->J.stop i H1)
inductive To(K:Ψ)(m:Ξ)(P:aE)(it:Ev.It)(s:L2.St)(H:Hp)(Rr:L2.It->Hp->Prop):Prop
 |mk (r:Y2) (fr:Fr) (h:Hh) (src:Src) (h':Hh) (c0:SR K m H r fr s) (c1:HR K H r h) (c2:Ev.cL P it fr h=.ok src h') (c3:∀J H' r',HR K H' r' h'->Fm K r r' H H'->qx K r' H' src J->Rr J H'):To K m P it s H Rr
def JI(G:Tb)(n:Nat)(sc:Scope)(N:Y1)(df:Bool)(m:Ξ)(it:Ev.It)(tg x:Expr):Prop:=∀X,Good G n sc N df X->PI X tg x (To X.K m (Ev.run G.F G.w n) it)
def HU(z:Str):L2.It:=⟨λi _=>i<z.length,λi H x H'=>H'=H/\∃c,z.cps[i]?=some c/\x=.str ⟨#[c]⟩,λi _=>z.length<=i⟩
def Ng{E:Φ}(z:Q () s):wpAny M A (letOwnedTupleGo tg it (.str x t)) Q E s:=by
 cases tg<;>first
  |exact Ws z
  | (cases it<;>exact Ws z)
def wV{K:Ψ}(z:Str)(t:Tok)(it:Addr)(ty:String)(Z:ty = "str_ascii_iterator" \/ty = "str_iterator"):
  Turn P w K tg (HU z) [it] it (λi h=>h.IsStrIter it ty z t i) where
 mem:=by simp
 obj:=λi h a b f=>by
  have e:b=it:=by simpa using f
  subst e;obtain⟨o,e,c,d⟩:=a;exact⟨o,e,λv z=>by rw[d]at z;exists z⟩
 keep:=λi h l a k=>by
  obtain⟨o,e,c,d⟩:=a;exact⟨o,k it (by simp) o e,c,d⟩
 item:=by
  intro X p q r j i g s σ H E I hf a hg;subst p q r;obtain⟨f0,f1,f2,f3,f4,f5⟩:=hf it (by simp);have W:Walks X.prog X.w X.A it [it] [it] z.cps.size (SignAt z) (λi h=>h.IsStrIter it ty z t i):=by
   rcases Z with e|e
   .subst e;exact Walks.strAscii (I.ok.hd j) it z t
   .subst e;exact Walks.strWide (I.ok.hd j) it z t
  refine W.item i s _ _ hg a λv l tk F y G=>?_;obtain⟨c,u,B,rfl⟩:=F;have I1:Inv X g σ H { s with heap:=l,toks:=tk }:=I.turned (λb o f e=>G b o (by simpa using f) e) f0 f1 f3 f4 f5;exact⟨_,rfl,Ng ⟨.str ⟨#[c]⟩,H,I1,⟨u,rfl⟩,⟨rfl,c,B,rfl⟩,y,λb f=>(hf b f).1⟩⟩
 done:=by
  intro X p q r j i g s σ H E I hf a hg;subst p q r;obtain⟨f0,f1,f2,f3,f4,f5⟩:=hf it (by simp);rcases Z with e|e
  .subst e;exact wpAny_pyNext_ascii_end (I.ok.hd j) a (by simpa[Str.length,HU]using hg) λl C=>⟨rfl,I.turned (t':=s.toks) (λb o f e=>C b o f e) f0 f1 f3 f4 f5⟩
  .subst e;exact wpAny_pyNext_wide_end (I.ok.hd j) a (by simpa[Str.length,HU]using hg) λl C=>⟨rfl,I.turned (t':=s.toks) (λb o f e=>C b o f e) f0 f1 f3 f4 f5⟩
 self:=λ_ _ _ _ _ a h=>by
  rcases Z with e|e
  .subst e;exact wpAny_pyIter_striter_ascii a h
  .subst e;exact wpAny_pyIter_striter_wide a h
def HV(K:Ψ)(x:V)(H:Hp)(Rr:L2.It->Hp->Prop):Prop:=
 (∃a xs,x=.ref a/\fJ K H a xs/\Rr (Tc K a) H)\/(∃a xs,x=.ref a/\dN K H a xs/\Rr (Td K a) H)\/∃z,x=.str z/\Rr (HU z) H
def Nh(hl:PE X l tl)(hw:∀s H Rr,wi s H Rr->tl s H λx Z=>HV X.K x Z Rr):PI X tg l wi:=by
 intro c s σ H Rr I h;refine bI (hl c s σ H _ I (hw _ _ _ h)) λv s1 zr=>?_;obtain⟨x,Z,I1,g,j⟩:=zr;have f:∀(o:Obj) b,b∈[s1.heap.objs.size]->gS X c Z b:=λo b r=>by
  have e:b=s1.heap.objs.size:=by simpa using r
  subst e;exact I1.A3 (Zw _) (I1.hok.fresh (Zw _))
 rcases j with ⟨a,xs,rfl,i,q⟩|⟨a,xs,rfl,i,q⟩|⟨z,rfl,q⟩
 .cases g;obtain⟨d,rv,p,hz⟩:=I1.list i;refine wpAny_pyIter_list p.isList ?_;exact⟨s1.heap.objs.size,[s1.heap.objs.size],_,_,Z,rfl,I1.kept λb o e=>ZD _ e,Cy a _,⟨_,ZM _ rfl,rfl,rfl⟩,f default,q⟩
 .cases g;obtain⟨d,rv,p,hz⟩:=I1.tuple i;refine wpAny_pyIter_tuple (show s1.heap.IsTuple a d.toArray from p) ?_;exact⟨s1.heap.objs.size,[s1.heap.objs.size],_,_,Z,rfl,I1.kept λb o e=>ZD _ e,A5 a _,⟨_,ZM _ rfl,rfl,rfl⟩,f default,q⟩
 .obtain⟨t,rfl⟩:=g;cases ha:z.cps.all (· < 128)
  .refine wpAny_pyIter_wide ha ?_;exact⟨s1.heap.objs.size,[s1.heap.objs.size],_,_,Z,rfl,I1.kept λb o e=>ZD _ e,wV z t _ _ (.inr rfl),⟨_,ZM _ rfl,rfl,rfl⟩,f default,q⟩
  .refine wpAny_pyIter_ascii ha ?_;exact⟨s1.heap.objs.size,[s1.heap.objs.size],_,_,Z,rfl,I1.kept λb o e=>ZD _ e,wV z t _ _ (.inl rfl),⟨_,ZM _ rfl,rfl,rfl⟩,f default,q⟩
def C1(e:Ev.stays h [(n,ds)]=true):Ev.bw h n=some ds:=by
 simp only[Ev.stays,Bool.and_true]at e;split at e
 .rename_i a q;rw[q,(Ev.uU _ _).mp e]
 ·exists e
def J2{K:Ψ}(hr:HR K H r h)(v1:RV K H r d v)(e:Ev.fM h d=some src)(q:∀J,qx K r H src J->Rr J H):HV K v H Rr:=by
 cases d with
 |tup ds=>
  obtain⟨a,j,rfl,z,w⟩:=v1
  exists e
  refine .inr (.inl ⟨a,j,rfl,z,q _ λi H1 o I b f1 B=>⟨λL f=>?_,λp=>?_⟩⟩)
  .obtain⟨u,A,g⟩:=w.get f;refine⟨⟨j,u,f1.tups _ _ z,A⟩,λx H2 y=>?_⟩;obtain⟨rfl,y⟩:=y;have:=y j (f1.tups _ _ z);rw[A]at this;exists this;exact⟨o,g.mono f1,b,.refl⟩
  .exact⟨j,f1.tups _ _ z,by rw[w.length];exact p⟩
 |str l=>
  obtain⟨rfl,z⟩:=v1
  exists e
  refine .inr (.inr ⟨_,rfl,q _ λi H1 o I b f1 B=>⟨λL f=>?_,λp=>?_⟩⟩)
  .rw[aaa]at f;cases g:l[i]? with
   |none=>rw[g]at f;exists f
   |some c=>
    rw[g]at f
    exists f
    refine⟨by exact(gL g).1,λx H2 y=>?_⟩;obtain⟨rfl,Z,M,rfl⟩:=y;have C:(bF l).cps[i]?=some c:=by simp[bF,g]
    rw[C]at M;exists M;exact⟨o,⟨rfl,by show 1<=sizeLine;decide⟩,b,.refl⟩
  .show(bF l).length<=i;rw[gK];simpa using p
 |ref k=>
  simp only[RV]at v1;obtain⟨a,rfl,z⟩:=v1;simp only[Ev.fM,Uw]at e;obtain⟨ds,A,rfl⟩:=e;obtain⟨X,j,g,C,e4⟩:=hr.read A;rw[z]at g;cases g;refine .inl ⟨a,j,rfl,C,q _ λi H1 o I b f1 B=>?_⟩;obtain⟨X,F,N,G,P⟩:=b.read (C1 B);rw[f1.pre _ _ z]at N;exists N;refine⟨λL f=>?_,λp=>⟨F,G,by rw[P.length];exact p⟩⟩;obtain⟨u,Q,Y⟩:=P.get f;refine⟨⟨F,u,G,Q⟩,λx H2 y=>?_⟩;obtain⟨rfl,y⟩:=y;have:=y F G;rw[Q]at this;exists this;exact⟨o,Y,b,.refl⟩
 |_=>exists e
section
variable{G:Tb}{n:Nat}{sc:Scope}{N:Y1}{df:Bool}{m:Ξ}{a b:E}{xa tg:Expr}{pos:Pos}
def Ni(I:JE G n sc N df m a xa):JI G n sc N df m (.seq a) tg xa:=λX g=>Nh (I X g) λs H Rr q=>by
 obtain⟨r,f,h,src,z,i,j,e,q⟩:=q;obtain⟨d,A,l,e⟩:=Ev.ai e;obtain⟨e,rfl⟩:=Ev.aJ e;refine⟨r,f,h,d,_,i,j,l,λv H1 o p c f1=>?_⟩;exact J2 c p e λJ y=>q J H1 o c f1 y
def PI.of(h:PI X tg l t)(w:∀s H Q,t' s H Q->t s H Q):PI X tg l t':=λpins s σ H Q I q=>h pins s σ H Q I (w _ _ _ q)
def Nj{K:Ψ}(lo:Int)(k:Nat):qx K r H (Ev.range lo k,[]) (HH lo k):=λi H1 g l c f1 o=>by
 refine⟨λd e=>?_,λp=>?_⟩
 .simp only[Ev.range,aaa]at e;cases e2:(List.range k)[i]? with
  |none=>rw[e2]at e;exists e
  |some j=>
   rw[e2]at e
   exists e
   have f:i<k:=by simpa using (gL e2).1
   have h:j=i:=by
    rw[abG f]at e2;exact(ZP e2).symm
   subst h;refine⟨f,λx H2 y=>?_⟩;obtain⟨rfl,rfl⟩:=y;exact⟨g,rfl,c,.refl⟩
 .have:(Ev.range lo k).length=k:=by simp[Ev.range]
  show k<=i;lia
def J3{I:E}{p:Pos}(hs:JA G n sc N df m (.cons I .nil) [xa])(hg:sc.names.lookup ("range":Str)=some .globalImplicit:=by rfl)(hb:("range":Str)∈G.bl:=by decide)(Z:∀env:Env,starEach [xa] env=[(false,eval xa env)]:=by intro _;rfl):JI G n sc N df m (.jM (.cons I .nil)) tg (.Call (.Name "range" p) [xa] [] pos):=λX g=>
 PI.of (Cz (g.gl hg) (g.bl _ hb) (hs X g) (Z _)) λs H Rr q=>by
  obtain⟨r,l,h,src,A,o,y,e,q⟩:=q;obtain⟨ds,B,I,e⟩:=Ev.ai e;obtain⟨e,rfl⟩:=Ev.aJ e;refine⟨r,l,h,ds,_,o,y,I,λC H1 z f c f1=>?_⟩;unfold Ev.fO at e;split at e
  .rename_i j;split at e
   .rename_i i
    exists e
    simp only[aT,RV]at f;obtain⟨v,w,rfl,rfl,rfl⟩:=f;exact⟨_,rfl,i.1,i.2,q _ H1 z c f1 (Nj 0 _)⟩
   ·exists e
  .exfalso;simp only[Ev.bY]at I;obtain⟨d,_,_,I⟩:=Ev.ai I;simp only[Ev.ao]at I;cases I
  ·exists e
inductive gJ(K:Ψ)(m:Ξ)(t:T)(v:V)(s:L2.St)(H:Hp)(Q:L2.St->Hp->Prop):Prop
 |mk (r:Y2) (fr:Fr) (h:Hh) (d:D) (aj:Fr) (c0:SR K m H r fr s) (c1:HR K H r h) (c2:RV K H r d v) (c3:Ev.bD t d fr=some aj) (c4:∀s',SR K m H r aj s'->Q s' H):gJ K m t v s H Q
def JG(G:Tb)(n:Nat)(sc:Scope)(N:Y1)(df:Bool)(m:Ξ)(t:T)(x:Expr):Prop:=∀X,Good G n sc N df X->PG X x (gJ X.K m t)
def PG.of(h:PG X e t)(w:∀v s H Q,t' v s H Q->t v s H Q):PG X e t':=λpins s σ H v u Q I r q=>h pins s σ H v u Q I r (w _ _ _ _ q)
theorem SR.set{K:Ψ}(sr:SR K m H r fr s)(Z:m.Nodup)(I:m[j]?=some i)(v1:RV K H r d v):SR K m H r (fr.set i (some d)) (s.set j (some v)):=by
 refine⟨by simp[sr.len],λl f o e c=>?_⟩;by_cases g:f=i
 .subst g;have:=C2 Z e I;subst this;have h:f<fr.length:=by
   have:=(gL c).1;simpa using this
  rw[Jb h]at c;cases c;refine⟨v,Jb ?_,v1⟩;rw[sr.len];exact(gL I).1
 .rw[AN (λz=>g z.symm)]at c;obtain⟨u,p,q⟩:=sr.sl l f o e c;refine⟨u,?_,q⟩;rw[AN]
  .exact p
  .intro z;subst z;rw[I]at e;exists e;exact g rfl
where
 C2 {l:Ξ} (hl:l.Nodup) {i j:Nat} {x:Nat} (a:l[i]?=some x) (b:l[j]?=some x):i=j:=by
  have ha:=(gL a)
  have hb:=(gL b)
  obtain⟨h1,e1⟩:=ha;obtain⟨h2,e2⟩:=hb;exact(List.getElem_inj hl).mp (e1.trans e2.symm)
def Good.loc(g:Good G n sc N df X)(h:sc.names.lookup x=some .local\/(df=true/\sc.names.lookup x=some .cell)):Loc X.env.scope x/\(X.fn x=true\/X.env.scope.names.lookup x=some .local):=by
 rw[show Loc X.env.scope x↔Loc sc x by rw[g.sc],g.sc];rcases h with h|⟨c,h⟩
 .exact⟨.inl h,.inr h⟩
 .exact⟨.inr h,.inl (g.own c x)⟩
def Nk(j i:Nat){x:Str}(I:m.Nodup)(Z:N.Nodup)(hj:m[j]?=some i:=by rfl)(C3:N[j]?=some x:=by rfl)(hl:sc.names.lookup x=some .local\/(df=true/\sc.names.lookup x=some .cell):=by first|exact Or.inl rfl|exact Or.inr ⟨rfl,rfl⟩):JG G n sc N df m (.one i) (.Name x pos):=λX g=>by
 obtain⟨c,f⟩:=g.loc hl;refine PG.of (zq (i:=j) (by rw[g.nm];exact Z) (by rw[g.nm];exact C3) c f) λv s H Q q=>?_;obtain⟨r,p,h,d,y,l,z,o,e,q⟩:=q
 exists e
 exact q _ (l.set I hj o)
inductive Tp(K:Ψ)(m:Ξ)(l:Ξ)(vs:Ty)(s:L2.St)(H:Hp)(Q:L2.St->Hp->Prop):Prop
 |mk (r:Y2) (fr:Fr) (h:Hh) (ds:T1) (aj:Fr) (c0:SR K m H r fr s) (c1:HR K H r h) (c2:aT K H r ds vs) (c3:Ev.cR l ds fr=some aj) (c4:∀s',SR K m H r aj s'->Q s' H):Tp K m l vs s H Q
def uX(G:Tb)(n:Nat)(sc:Scope)(N:Y1)(df:Bool)(m:Ξ)(l:Ξ)(xs:Kj):Prop:=∀X,Good G n sc N df X->pX X xs (Tp X.K m l)
def pX.of(h:pX X e t)(w:∀v s H Q,t' v s H Q->t v s H Q):pX X e t':=λpins s σ H v u Q I r q=>h pins s σ H v u Q I r (w _ _ _ _ q)
def J4:uX G n sc N df m [] []:=λX g=>pX.of Jv λd s H Q q=>by
 obtain⟨r,f,h,ds,i,c,j,l,e,q⟩:=q;cases ds with
 |nil=>exists e;exact⟨rfl,q _ c⟩
 |cons _ _=>exists e
def Fx(j i:Nat){x:Str}{l:Ξ}{xs:Kj}(Z:m.Nodup)(hN:N.Nodup)(hs:uX G n sc N df m l xs)(hj:m[j]?=some i:=by rfl)(C3:N[j]?=some x:=by rfl)(hl:sc.names.lookup x=some .local\/(df=true/\sc.names.lookup x=some .cell):=by first|exact Or.inl rfl|exact Or.inr ⟨rfl,rfl⟩)(I:∀env:Env,(assignEach (.Name x pos :: xs) env).map (·.2)=assign (.Name x pos) env :: (assignEach xs env).map (·.2):=by intro _;rfl):uX G n sc N df m (i :: l) (.Name x pos :: xs):=λX g=>by
 obtain⟨f,o⟩:=g.loc hl;refine pX.of (EX (zq (i:=j) (by rw[g.nm];exact hN) (by rw[g.nm];exact C3) f o) (hs X g) (I _)) λC s H Q q=>?_;obtain⟨r,F,h,ds,p,y,z,c,e,q⟩:=q;cases ds with
 |nil=>exists e
 |cons d ds=>
  simp only[aT]at c;obtain⟨v,w,rfl,A,B⟩:=c;exact⟨v,w,rfl,r,_,h,ds,p,y.set Z hj A,z,B,e,q⟩
def J5{l:Ξ}{xs:Kj}{k:Nat}(Z:uX G n sc N df m l xs)(hn:∀env:Env,(assignEach xs env).length=l.length:=by intro _;rfl)(I:∀env:Env,(assignEach xs env).findIdx? (·.1)=none:=by intro _;rfl):
  JG G n sc N df m (.many l) (.Tuple xs k pos):=λX g=>PG.of (Mb (n:=l.length) g.calm (Z X g) (hn _) (I _)) λv s H Q q=>by
 obtain⟨r,c,h,d,f,y,A,o,e,q⟩:=q;cases d with
 |tup ds=>
  simp only[RV]at o;obtain⟨p,B,rfl,z,w⟩:=o;have j:∀(l:Ξ) (ds:T1) c f,Ev.cR l ds c=some f->ds.length=l.length:=by
   intro l;induction l with
   |nil=>intro ds c f e;cases ds with|nil=>rfl|cons _ _=>exists e
   |cons i l C=>intro ds c f e;cases ds with|nil=>exists e|cons d ds=>simp[C ds _ _ e]
  exact⟨p,B,rfl,z,by rw[w.length];exact j _ _ _ _ e,r,c,h,ds,f,y,A,w,e,q⟩
 |_=>exists e
end
def Fin(K:Ψ)(m:Ξ)(r:Y2)(H:Hp)(h':Hh)(fl:Fl)(aj:Fr)(Q:Ends):Prop:=match fl with
 |.nx=>∀s' H' r',SR K m H' r' aj s'->HR K H' r' h'->Fm K r r' H H'->Q.nx s' H'
 |.bk=>∀s' H' r',SR K m H' r' aj s'->HR K H' r' h'->Fm K r r' H H'->Q.bk s' H'
 |.ct=>∀s' H' r',SR K m H' r' aj s'->HR K H' r' h'->Fm K r r' H H'->Q.ct s' H'
 |.ret d=>Res K r H h' d Q.rt
theorem Fin.later{K:Ψ}(q:Fin K m r H h' fl aj Q)(f:Fm K r r' H H'):Fin K m r' H' h' fl aj Q:=by
 cases fl with
 |nx=>exact λs2 H2 c a b g=>q s2 H2 c a b (f.trans g)
 |bk=>exact λs2 H2 c a b g=>q s2 H2 c a b (f.trans g)
 |ct=>exact λs2 H2 c a b g=>q s2 H2 c a b (f.trans g)
 |ret d=>exact Res.later q f
inductive Tt(K:Ψ)(m:Ξ)(P:aE)(w:Nat)(st:S)(Q:Ends)(s:L2.St)(H:Hp):Prop
 |mk (r:Y2) (fr:Fr) (h:Hh) (fl:Fl) (aj:Fr) (h':Hh) (c0:SR K m H r fr s) (c1:HR K H r h) (c2:Ev.ex P w st fr h=.ok (fl,aj) h') (c3:Fin K m r H h' fl aj Q):Tt K m P w st Q s H
inductive wW(K:Ψ)(m:Ξ)(P:aE)(w:Nat)(ss:Ss)(Q:Ends)(s:L2.St)(H:Hp):Prop
 |mk (r:Y2) (fr:Fr) (h:Hh) (fl:Fl) (aj:Fr) (h':Hh) (c0:SR K m H r fr s) (c1:HR K H r h) (c2:Ev.exs P w ss fr h=.ok (fl,aj) h') (c3:Fin K m r H h' fl aj Q):wW K m P w ss Q s H
def PS.of{st:Stmt}(h:PS X st t)(w:∀Q s H,t' Q s H->t Q s H):PS X st t':=λpins s σ H Q I q=>h pins s σ H Q I (w _ _ _ q)
def gm.of{st:List Stmt}(h:gm X st t)(w:∀Q s H,t' Q s H->t Q s H):gm X st t':=λpins s σ H Q I q=>h pins s σ H Q I (w _ _ _ q)
section
variable(G:Tb)(n:Nat)(sc:Scope)(N:Y1)(df:Bool)(m:Ξ)
def JS(st:S)(x:Stmt):Prop:=∀X,Good G n sc N df X->PS X x (Tt X.K m (Ev.run G.F G.w n) G.w st)
def kE(ss:Ss)(xs:List Stmt):Prop:=∀X,Good G n sc N df X->gm X xs (wW X.K m (Ev.run G.F G.w n) G.w ss)
end
section
variable{G:Tb}{n:Nat}{sc:Scope}{N:Y1}{df:Bool}{m:Ξ}{a:E}{xa tg:Expr}{pos:Pos}
def J6:kE G n sc N df m .nil []:=λX g=>gm.of Ju λQ s H q=>by
 obtain⟨r,d,h,fl,f,i,b,c,e,q⟩:=q;simp only[Ev.exs]at e;cases e;exact q s H r b c .refl
def Fy{st:S}(h1:JS G n sc N df m st x)(h2:kE G n sc N df m ss xs):kE G n sc N df m (.cons st ss) (x :: xs):=λX g=>gm.of (qq (h1 X g) (h2 X g)) λQ s H q=>by
 obtain⟨r,i,h,fl,j,l,o,p,e,q⟩:=q;obtain⟨⟨c,f⟩,h1,y,e⟩:=Ev.ai e;refine⟨r,i,h,c,f,h1,o,p,y,?_⟩;cases c with
 |nx=>exact λs1 H1 z A b f1=>⟨z,f,h1,fl,j,l,A,b,e,q.later f1⟩
 |bk=>cases e;exact q
 |ct=>cases e;exact q
 |ret d=>cases e;exact q
def Nl(j i:Nat)(I:m.Nodup)(Z:N.Nodup)(ha:JE G n sc N df m a xa)(hs:∀env:Env,swapsWith xa (some (.Name x pos')) pos.line env=pure false:=by intro _;rfl)(hj:m[j]?=some i:=by rfl)(C3:N[j]?=some x:=by rfl)(hl:sc.names.lookup x=some .local\/(df=true/\sc.names.lookup x=some .cell):=by first|exact Or.inl rfl|exact Or.inr ⟨rfl,rfl⟩):JS G n sc N df m (.set i a) (.Assign [.Name x pos'] xa pos):=λX g=>by
 obtain⟨c,l⟩:=g.loc hl;refine PS.of (Mc (by rw[g.nm];exact Z) (by rw[g.nm];exact C3) c (ha X g) (hs _) l) λQ s H q=>?_;obtain⟨r,o,h,fl,B,C,f,p,e,q⟩:=q;obtain⟨d,c,y,e⟩:=Ev.ai e;cases e;exact⟨r,o,h,d,_,f,p,y,λv H1 z A b f1=>q _ H1 z ((f.mono f1).set I hj A) b f1⟩
def Nm(I:JE G n sc N df m a xa)(Z:∀env:Env,swapsWith xa none pos.line env=pure false:=by intro _;rfl):JS G n sc N df m (.exp a) (.Expr xa pos):=λX g=>PS.of (zp (I X g) (Z _)) λQ s H q=>by
 obtain⟨r,f,h,fl,o,p,c,i,e,q⟩:=q;obtain⟨d,y,j,e⟩:=Ev.ai e;cases e;exact⟨r,f,h,d,_,c,i,j,λv H1 l z b f1=>q s H1 l (c.mono f1) b f1⟩
def Np(z:JE G n sc N df m a xa):JS G n sc N df m (.ret a) (.Return (some xa) pos):=λX g=>PS.of (wu (z X g)) λQ s H q=>by
 obtain⟨r,b,h,fl,j,l,c,f,e,q⟩:=q;obtain⟨d,o,i,e⟩:=Ev.ai e;cases e;exact⟨r,b,h,d,_,c,f,i,q⟩
def Nq(hc:JT G n sc N df m a xa)(h1:kE G n sc N df m ta ya)(h2:kE G n sc N df m tb yb):JS G n sc N df m (.iff a ta tb) (.If xa ya yb pos):=λX g=>PS.of (HD (hc X g) (h1 X g) (h2 X g)) λQ s H q=>by
 obtain⟨r,c,h,fl,i,j,d,o,e,q⟩:=q;obtain⟨k,f,p,e⟩:=Ev.ai e;refine⟨r,c,h,k,f,d,o,p,λH1 l b f1=>?_⟩;cases k with
 |true=>exact⟨l,c,f,fl,i,j,d.mono f1,b,e,q.later f1⟩
 |false=>exact⟨l,c,f,fl,i,j,d.mono f1,b,e,q.later f1⟩
def Good.pass(g:Good G n sc N df X):PassesOwn (model X.prog X.w) X.A X.env X.xe:=by
 rw[g.xe];exact PassesOwn.never
def FN(K:Ψ)(m:Ξ)(I:Fl)(Z:Fr)(h4:Hh)(r1:Y2)(H1:Hp)(s5:L2.St)(z:Hp):Prop:=(I=.nx\/I=.ct)/\∃r5,SR K m z r5 Z s5/\HR K z r5 h4/\Fm K r1 r5 H1 z
section
variable{K:Ψ}{r r1 r2:Y2}{H H1 H2:Hp}{h4 h':Hh}{fl g9:Fl}{iI aj:Fr}{Q:Ends}
def Fz(L:R (Fl×Fr))(p:Fl×Fr)(h1:Hh):R (Fl×Fr):=match p.1 with
 |.nx=>L
 |.ct=>L
 |.bk=>.ok (.nx,p.2) h1
 |.ret x=>.ok (.ret x,p.2) h1
def zE(e:Fz L (g9,iI) h4=.ok (fl,aj) h')(z:g9=.nx\/g9=.ct):L=.ok (fl,aj) h':=by rcases z with rfl|rfl<;>exact e
def wY(e:Fz L (g9,iI) h4=.ok (fl,aj) h')(q:Fin K m r H h' fl aj Q)(f:Fm K r r1 H H1)(f2:Fm K r1 r2 H1 H2):Fin K m r2 H2 h4 g9 iI { Q with nx:=FN K m g9 iI h4 r1 H1,ct:=FN K m g9 iI h4 r1 H1,bk:=Q.nx }:=by
 cases g9 with
 |nx=>exact λs6 H6 b C4 C5 f6=>⟨.inl rfl,b,C4,C5,f2.trans f6⟩
 |ct=>exact λs6 H6 b C4 C5 f6=>⟨.inr rfl,b,C4,C5,f2.trans f6⟩
 |bk=>
  cases e;exact λs6 H6 b C4 C5 f6=>q s6 H6 b C4 C5 ((f.trans f2).trans f6)
 |ret d=>
  cases e;exact Res.later q (f.trans f2)
def wZ(P:aE)(w:Nat)(t:T)(tb:Ss):D->Fr->Hh->R (Fl×Fr):=λd b c=>match Ev.bD t d b with
 |some e=>Ev.exs P w tb e c
 |none=>.bad
def C6(P:aE)(w:Nat)(t:T)(it:Ev.It)(tb:Ss)(fr:Fr)(h:Hh):Ev.ex P w (.for t it tb) fr h=(Ev.cL P it fr h).bind λs h1=>Ev.forL (wZ P w t tb) s.2 s.1 fr h1:=by rfl
def uY(f:D->Fr->Hh->R (Fl×Fr))(z:List (Nat×T1))(d:D)(ds:T1)(fr:Fr)(h:Hh):Ev.forL f z (d :: ds) fr h=if Ev.stays h z then (f d fr h).bind λp h1=>Fz (Ev.forL f z ds p.2 h1) p h1 else .bad:=rfl
def FW(K:Ψ)(m:Ξ)(f:D->Fr->Hh->R (Fl×Fr))(src:Src)(r1:Y2)(H1:Hp)(o:Fl×Fr)(h':Hh)(i k:Nat)(s3:L2.St)(z:Hp):Prop:=
 k=src.1.length - i/\i<=src.1.length/\∃r3 bB h3,SR K m z r3 bB s3/\HR K z r3 h3/\Fm K r1 r3 H1 z/\Ev.forL f src.2 (src.1.drop i) bB h3=.ok o h'
def FA(Z:qx K r1 H1 src J)(q:Fin K m r H h' fl aj Q)(f1:Fm K r r1 H H1)(hW:FW K m (wZ P w t tb) src r1 H1 (fl,aj) h' i k s3 H3):
  (J.stop i H3/\Q.nx s3 H3)\/(J.go i H3/\∃N:L2.St->Hp->Prop,(∀σ' H',N σ' H'->∃m',m'<k/\FW K m (wZ P w t tb) src r1 H1 (fl,aj) h' (i+1) m' σ' H')/\∀x H',J.HG i H3 x H'->gJ K m t x s3 H' λσ2 H2=>wW K m P w tb { Q with nx:=N,ct:=N,bk:=Q.nx } σ2 H2):=by
 obtain⟨rfl,f,g,A,h,p,j,f3,b⟩:=hW;rcases Nat.lt_or_ge i src.1.length with c|l
 .rw[aaq c,uY]at b;split at b
  .rename_i d;obtain⟨B,C⟩:=(Z i H3 g h j f3 d).1 src.1[i] (Zy c);obtain⟨⟨g9,iI⟩,h4,e,b⟩:=Ev.ai b;unfold wZ at e;split at e
   .rename_i z F;exact .inr ⟨B,FN K m g9 iI h4 r1 H1,λs5 H5 ⟨o,I,C7,L,f5⟩=>⟨_,acE c (aa3 i),rfl,c,I,iI,h4,C7,L,f5,zE b o⟩,λx H4 y=>
     let ⟨r4,v4,HW,f4⟩:=C x H4 y
     ⟨r4,A,h,_,z,p.mono f4,HW,v4,F,λs5 C7=>⟨r4,z,h,g9,iI,h4,C7,HW,e,wY b q f1 (f3.trans f4)⟩⟩⟩
   ·exists e
  ·exists b
 .have M:=Nat.le_antisymm f l;subst M;rw[abp]at b;unfold Ev.forL at b;split at b
  .rename_i d;cases b;exact .inl ⟨(Z _ H3 g _ j f3 d).2 (Zw _),q s3 H3 g p j (f1.trans f3)⟩
  ·exists b
end
def WW(K:Ψ)(m:Ξ)(P:aE)(w:Nat)(a:E)(tb:Ss)(r:Y2)(H:Hp)(o:Fl×Fr)(h':Hh)(k:Nat)(s1:L2.St)(z:Hp):Prop:=
 ∃r1 ah h1,SR K m z r1 ah s1/\HR K z r1 h1/\Fm K r r1 H z/\Ev.fP (λb c=>Ev.bu P a b c) (λb c=>Ev.exs P w tb b c) k ah h1=.ok o h'
def Nr(hc:JT G n sc N df m a xa)(h1:kE G n sc N df m tb yb):JS G n sc N df m (.lX a tb) (.While xa yb [] pos):=λX g=>PS.of (EY g.pass (hc X g) (h1 X g)) λQ s H q=>by
 obtain⟨r,B,h,fl,C,I,J,L,e,q⟩:=q;refine⟨WW X.K m (Ev.run G.F G.w n) G.w a tb r H (fl,C) I,⟨_,r,B,h,J,L,.refl,e⟩,λk s1 H1 M=>?_⟩;obtain⟨P,o,h1,d,f,f1,b⟩:=M;cases k with
 |zero=>exists b
 |succ k=>
  obtain⟨p,y,W,b⟩:=Ev.ai b;refine⟨P,o,h1,p,y,d,f,W,λH2 z c f2=>?_⟩;cases p with
  |false=>
   cases b;exact q s1 H2 z (d.mono f2) c (f1.trans f2)
  |true=>
   obtain⟨⟨A,i⟩,j,Y,b⟩:=Ev.ai b;exact⟨FN X.K m A i j r H,λs3 H3 ⟨l,Z,zF,jj,f3⟩=>⟨k,aa3 k,Z,i,j,zF,jj,f3,zE b l⟩,z,o,y,A,i,j,d.mono f2,c,Y,wY b q .refl (f1.trans f2)⟩
def Nt(hi:JI G n sc N df m it tg xa)(I:JG G n sc N df m t tg)(h1:kE G n sc N df m tb yb)(Z:∀(env:Env) x,foldedSetIterable xa env x=pure x:=by intro _ _;rfl):
  JS G n sc N df m (.for t it tb) (.For tg xa yb [] pos):=λX g=>PS.of (Mf g.pass g.calm (hi X g) (I X g) (h1 X g) (Z _)) λQ s H q=>by
 obtain⟨r,c,h,fl,l,o,d,p,e,q⟩:=q;obtain⟨src,f,y,e⟩:=Ev.ai e;exact⟨r,c,h,src,f,d,p,y,λJ H1 j b f1 z=>⟨FW X.K m (wZ (Ev.run G.F G.w n) G.w t tb) src j H1 (fl,l) o,⟨src.1.length,rfl,aas _,j,c,f,d.mono f1,b,.refl,by exact e⟩,λi k s3 H3 A=>FA z q f1 A⟩⟩
end
def getElem?_range'{k j i:Nat}(h:(List.range k)[j]?=some i):i=j:=by
 obtain⟨b,a⟩:=gL h;simpa using a.symm
def qy{K:Ψ}(z:aT K H r ds vs)(I:vs.length<=N.length):SR K (List.range N.length) H r (Ev.cW fn ds) (L2.start N vs):=by
 refine⟨by unfold L2.start;simp;lia,λj i d c a=>?_⟩;have e:=getElem?_range' c;subst e;unfold Ev.cW at a;by_cases b:i<ds.length
 .rw[oW (by simpa using b),aaa]at a;cases e4:ds[i]? with
  |none=>rw[e4]at a;exists a
  |some h=>
   rw[e4]at a;cases a;obtain⟨v,f,g⟩:=z.get e4;refine⟨v,?_,g⟩;unfold L2.start;rw[oW (by have:=z.length;simpa using (by lia)),aaa,f];rfl
 .rw[ZY (by simpa using Nat.not_lt.mp b),acf]at a;split at a<;>cases a
section
variable{P:Program}{w:World}{K:Ψ}{mg:Kx}{base:Heap}{G:Tb}
def pe(P:Program)(w:World)(K:Ψ)(mg:Kx)(base:Heap)(G:Tb)(n:Nat):Prop:=∀(f:Nat) i,
 G.fi[f]?=some i
 ->fc P w K mg base lW n i.addr i.fd i.ps (ny K G.F G.w n f)
structure Top(P:Program)(w:World)(K:Ψ)(mg:Kx)(G:Tb):Prop where
 fn:∀(f:Nat) i,G.fi[f]?=some i->mg i.name=some (.ref i.addr)/\W.keepIn K (.ref i.addr)=true/\Binds K i.fd i.ps []
 bl:∀x∈G.bl,mg x=none
 cs:∀x d,(x,d)∈G.cs->∃v u,mg x=some u/\RelV v u/\zD K d v
 dk:∀x kvs,(x,kvs)∈G.dk->∃a,mg x=some (.ref a)/\∀h:Heap,K.In h->StrTab P w h a (tabOf kvs)
def J7:fc P w K mg base lW 0 f fd ps (ny K G.F G.w 0 k):=by
 have no:∀a H Q E,¬ ny K G.F G.w 0 k a H Q E:=λa H Q E h=>by
  obtain⟨r,h,ds,d,c,_,_,e,_⟩:=h
  exists e
 exact⟨λa H Q E h=>absurd h (no a H Q E),λA b s H args g a Q E _ _ _ _ h=>absurd h (no a H Q E)⟩
def cX{st:Stmt}{i:FI}(T:Top P w K mg G)(A0:pe P w K mg base G n)(F:q9 K x qual st i.addr i.fd)(S:bE N i.ps (aI st))(hf:G.F[f]?=some fn)(hp:i.ps.length=fn.np)(hb:kE G n (aI st) N true (List.range N.length) fn.body (eO st)):fc P w K mg base lW (n+1) i.addr i.fd i.ps (ny K G.F G.w (n+1) f):=by
 have a:∀c H Q E,ny K G.F G.w (n+1) f c H Q E->c.length=i.ps.length:=λc H Q E h=>by
  obtain⟨r,h,ds,d,C,l,_,e,_⟩:=h;simp only[Ev.fy,hf]at e;split at e
  .rename_i z;rw[l.length,z,hp]
  ·exists e
 refine F.ok S a λo A b s H c Q E I B=>?_;have hl:=a c H Q E B;have J:c.length<=N.length:=by
  have:=ZJ List.length S.pre;rw[Z9]at this;lia
 have g:Good G n (aI st) N true (ly lW P w K mg base N qual (aI st) i.addr o A b s H E).iR:=
  ⟨rfl,rfl,rfl,λ_ _=>rfl,I,rfl,λf i j=>⟨(T.fn f i j).1,(T.fn f i j).2.1,(T.fn f i j).2.2,A0 f i
   j
   ⟩,T.bl,T.cs,T.dk
   ⟩
 refine⟨_,hb _ g,?_⟩;obtain⟨r,h,ds,d,C,l,p,e,q⟩:=B;simp only[Ev.fy,hf]at e;split at e
 .obtain⟨⟨fl,L⟩,M,X,e⟩:=Ev.ai e;refine⟨r,Ev.cW fn ds,h,fl,L,M,qy l J,p,X,?_⟩;cases fl with
  |nx=>
   exists e
   exact λs' H' Y _ y Z=>q _ H' Y rfl y Z
  |ret d'=>
   exists e
   exact q
  |bk=>exists e
  |ct=>exists e
 ·exists e
end
open PySem.SeqAt
def FD(kvs:Θ)(k:Int):((dQ kvs).find? λkv=>decide (kv.1=(Sum.inl k:Key)))=(kvs.find? λp=>decide (p.1=k)).map λp=>(Sum.inl p.1,V.str (bF p.2)):=by
 induction kvs with
 |nil=>rfl
 |cons p kvs a=>
  simp only[dQ,WL,aal]at a ⊢;by_cases h:p.1=k
  .simp[h]
  .rw[ZG (by simpa using h),ZG h];exact a
def zG(kvs:Θ)(k:Int):jr (dQ kvs) (Sum.inl k:Key)=(Ev.bU kvs k).map λs=>V.str (bF s):=by
 unfold jr Ev.bU;rw[FD,Option.map_map,Option.map_map];rfl
def zH(kvs:Θ)(k:Int)(s:Ξ):putK (dQ kvs) (Sum.inl k:Key) (V.str (bF s))=dQ (Ev.cF kvs k s):=by
 have a:((dQ kvs).any λb=>decide (b.1=(Sum.inl k)))=(kvs.any λp=>decide (p.1=k)):=by
  unfold dQ;rw[List.any_map];congr 1;funext p;simp
 unfold putK Ev.cF;rw[a];split
 .unfold dQ;rw[abw,abw];refine acF λp _=>?_;by_cases h:p.1=k<;>simp[h]
 .unfold dQ;rw[ZQ];rfl
def zI(h:Ev.bU kvs k=some s):∃p∈kvs,p.2=s:=by
 obtain⟨p,e,rfl⟩:=kA h;exact⟨p,List.mem_of_find?_eq_some e,rfl⟩
def zJ(h:p∈Ev.cF kvs k s):p∈kvs\/p.2=s:=by
 unfold Ev.cF at h;split at h
 .obtain⟨q,a,rfl⟩:=List.mem_map.mp h;split
  .exact .inr rfl
  .exact .inl a
 .rcases kS h with h|h
  .exact .inl h
  .rw[aai]at h;subst h;exact .inr rfl
section
variable{K:Ψ}{H:Hp}{r:Y2}{h:Hh}
def HR.gf(hr:HR K H r h)(Z:H p=none):HR K (upd H p (.dK [])) (r++[p]) (h++[.dct []]) where
 len:=by simp[hr.len]
 ob:=λn ob e=>by
  by_cases G:n<h.length
  .rw[oW G]at e;obtain⟨a,g,z⟩:=hr.ob n ob e;exact⟨a,(Fm.laid (K:=K) (o:=.dK []) Z).pre n a g,z.mono (Fm.laid Z) (λ_ N _ z=>by rw[aV (bG z Z)];exact z) (λ_ _ z=>by rw[aV (bG z Z)];exact z) (λ_ _ _ z=>by rw[aV (bG z Z)];exact z)
    ⟩
  .have f:=(gL e).1;simp only[Zx,ZS]at f;have i:n=h.length:=by lia
   subst i;simp at e;subst e;exact⟨p,by rw[<-hr.len];simp,e8,λq I=>by cases I⟩
 inj:=λn m a x y g f i l=>by
  have out:∀(k:Nat) z,(h++[O.dct []])[k]?=some (.lst z)->(r++[p])[k]?=some a->r[k]?=some a/\h[k]?=some (.lst z):=λk z c d=>by
   by_cases A:k<h.length
   .rw[oW A]at c;rw[oW (by rw[hr.len];exact A)]at d;exact⟨d,c⟩
   .have j:=(gL c).1;simp only[Zx,ZS]at j;have B:k=h.length:=by lia
    subst B;simp at c
  exact hr.inj n m a x y (out n x i g).1 (out m y l f).1 (out n x i g).2 (out m y l f).2
 kD:=λn m a x y g f i l=>by
  have out:∀(k:Nat) z,(h++[O.dct []])[k]?=some (.dct z)->(r++[p])[k]?=some a->(r[k]?=some a/\h[k]?=some (.dct z)/\a≠p)\/(k=h.length/\a=p):=λk z c d=>by
   by_cases A:k<h.length
   .rw[oW A]at c;rw[oW (by rw[hr.len];exact A)]at d;obtain⟨b,j,B,_⟩:=hr.dct c;rw[d]at j;exists j;exact .inl ⟨d,c,bG B Z⟩
   .have j:=(gL c).1;simp only[Zx,ZS]at j;have B:k=r.length:=by rw[hr.len];lia
    subst B;simp at d;exact .inr ⟨hr.len,d.symm⟩
  rcases out n x i g with ⟨C,J,L⟩|⟨M,C⟩
  .rcases out m y l f with ⟨k2,k3,F⟩|⟨k1,k2⟩
   .exact hr.kD n m a x y C k2 J k3
   .exact absurd k2 L
  .rcases out m y l f with ⟨k2,k3,F⟩|⟨k1,k2⟩
   .exact absurd C F
   .rw[M,k1]
def Fm.dput(I:H a=some (.dK vs))(Z:a∈r):Fm K r r H (upd H a (.dK ws)) where
 pre:=λn b e=>e
 new:=λb e=>.inl e
 keep:=λb c e n=>by rw[aV (λz=>n (by rw[z];exact Z))];exact e
 tups:=λb d e=>by
  rcases e with (e|⟨c,e⟩)|e
  .exact .inl (.inl (by rw[aV (iQ e I (by intro z;exists z))];exact e))
  .exact .inl (.inr ⟨c,by rw[aV (iQ e I (by intro z;exists z))];exact e⟩)
  .exact .inr e
theorem HR.dput(hr:HR K H r h)(Z:h[n]?=some (.dct ds))(wR:r[n]?=some a)(ha:H a=some (.dK (dQ ds)))(q:∀p∈es,p.2.length<=sizeLine):
  HR K (upd H a (.dK (dQ es))) r (h.set n (.dct es)) where
 len:=by simp[hr.len]
 ob:=λm ob e=>by
  have f:=Fm.dput (K:=K) (ws:=dQ es) ha (ZA wR);by_cases i:m=n
  .subst i;rw[Jb (gL Z).1]at e
   exists e
   exact⟨a,wR,e8,q⟩
  .rw[AN (λz=>i z.symm)]at e;obtain⟨b,d,z⟩:=hr.ob m ob e;refine⟨b,d,z.mono f (λ_ C _ c=>by rw[aV (iQ c ha (by intro z;exists z))];exact c) (λWY C c=>by rw[aV (iQ c ha (by intro z;exists z))];exact c) (λl C G c=>by
    by_cases F:b=a
    .subst F;subst G;exact absurd (hr.kD m n b l ds d wR e Z) i
    .rw[aV F];exact c)
    ⟩
 inj:=λk m b x y d o A B=>by
  have back:∀(j:Nat) z,(h.set n (O.dct es))[j]?=some (.lst z)->h[j]?=some (.lst z):=λj z w=>by
   by_cases g:j=n
   .subst g;rw[Jb (gL Z).1]at w;cases w
   .rw[AN (λz=>g z.symm)]at w;exact w
  exact hr.inj k m b x y d o (back k x A) (back m y B)
 kD:=λk m b x y d o A B=>by
  have back:∀(j:Nat) z,(h.set n (O.dct es))[j]?=some (.dct z)->∃z',h[j]?=some (.dct z'):=λj z w=>by
   by_cases g:j=n
   .subst g;exact⟨ds,Z⟩
   .rw[AN (λz=>g z.symm)]at w;exact⟨z,w⟩
  obtain⟨I,J⟩:=back k x A;obtain⟨L,M⟩:=back m y B;exact hr.kD k m b I L d o J M
end
def mU(e:Ev.eW h x=some kvs):∃n,x=.ref n/\h[n]?=some (.dct kvs):=by
 cases x with
 |ref n=>
  simp only[Ev.eW]at e;split at e
  .rename_i k z;exists e;exact⟨n,rfl,z⟩
  ·exists e
 |_=>exists e
def J8(e:Ev.wN x y h=some d):∃n kvs k s,x=.ref n/\h[n]?=some (.dct kvs)/\y=.int k/\Ev.bU kvs k=some s/\d=.str s:=by
 unfold Ev.wN at e;cases hx:Ev.eW h x with
 |none=>rw[hx]at e;exists e
 |some kvs=>
  rw[hx]at e;obtain⟨n,rfl,z⟩:=mU hx;cases y with
  |int k=>
   obtain⟨w,a,rfl⟩:=kA e;exact⟨n,kvs,k,w,rfl,z,rfl,a,rfl⟩
  |_=>exists e
def J9{h h0:Hh}{x y z d:D}(e:Ev.wO x y z h h0=some d):∃n HY kvs k,x=.ref n/\h0[n]?=some (.dct HY)/\h[n]?=some (.dct kvs)/\y=.int k/\d=(match Ev.bU kvs k with|some s=>.str s|none=>z):=by
 unfold Ev.wO at e;cases hx:Ev.eW h0 x with
 |none=>rw[hx]at e;exists e
 |some HY=>
  rw[hx]at e;obtain⟨n,rfl,w⟩:=mU hx;cases hy:Ev.eW h (.ref n)with
  |none=>rw[hy]at e;exists e
  |some kvs=>
   rw[hy]at e;obtain⟨b,en,a⟩:=mU hy;cases en;cases y with
   |int k=>exists e;exact⟨n,HY,kvs,k,rfl,w,a,rfl,rfl⟩
   |_=>exists e
def FE(e:Ev.rB x y z h=some h'):∃n kvs k s,x=.ref n/\y=.int k/\z=.str s/\h[n]?=some (.dct kvs)/\kvs.length<Ev.big/\h'=h.set n (.dct (Ev.cF kvs k s)):=by
 unfold Ev.rB at e;cases x with
 |ref n=>
  cases y with
  |int k=>
   cases z with
   |str s=>
    simp only at e;cases hn:h[n]? with
    |none=>rw[hn]at e;exists e
    |some o=>
     rw[hn]at e;cases o with
     |dct kvs=>
      simp only at e;by_cases a:kvs.length<Ev.big
      .rw[gV a]at e;exists e;exact⟨n,kvs,k,s,rfl,rfl,rfl,hn,a,rfl⟩
      .rw[Yl a]at e;exists e
     |_=>exists e
   |_=>exists e
  |_=>exists e
 |_=>exists e
section
variable{G:Tb}{n:Nat}{sc:Scope}{N:Y1}{df:Bool}{m:Ξ}{a b c:E}{xa xb xc:Expr}{pos:Pos}
def Ka:JE G n sc N df m .gf (.Dict [] [] pos):=λX g=>PE.of Ff λs H Q q=>by
 obtain⟨r,j,h,d,l,o,f,e,q⟩:=q
 exists e
 intro p i;exact q _ _ (r++[p]) ⟨p,rfl,by rw[<-f.len];simp⟩ (f.gf i) (Fm.laid i)
def Nu(ha:JE G n sc N df m a xa)(hb:JE G n sc N df m b xb)(hs:Fd xb:=by intro _ _;rfl):JE G n sc N df m (.jP a b) (.Subscript xa xb pos):=λX g=>PE.of (JV (Be g.room) (ha X g) (hb X g) hs) λs H Q q=>by
 obtain⟨r,l,h,d,h',o,I,e,q⟩:=q;obtain⟨x,A,J,e⟩:=Ev.ai e;obtain⟨y,h2,K,e⟩:=Ev.ai e;obtain⟨e,rfl⟩:=Ev.aJ e;refine⟨r,l,h,x,A,o,I,J,λv H1 L M j f1=>?_⟩;refine⟨L,l,A,y,_,o.mono f1,j,K,λu H2 P W f f2=>?_⟩;obtain⟨i,Y,k,w,rfl,z,rfl,B,rfl⟩:=J8 e;obtain⟨p,Z,z2,z3⟩:=f.dct z;obtain⟨p',rfl,C⟩:=M.mono f2;rw[Z]at C;cases C;cases W;obtain⟨F,C8,rfl⟩:=zI B;refine⟨p,.str (bF F.2),rfl,?_,q _ H2 P ⟨rfl,z3 F C8⟩ f (f1.trans f2)⟩;have:=mQ.k (k:=Sum.inl k) z2;rw[zG,B]at this;exact this
def Nv(ha:JE G n sc N df m a xa)(hb:JE G n sc N df m b xb)(hc:JE G n sc N df m c xc)(hM:∀X:Cx,M2 X xa "get" apos xb xc pos:=by intro X;exact⟨rfl,rfl,rfl,rfl⟩):JE G n sc N df m (.jQ a b c) (.Call (.Attribute xa "get" apos) [xb,xc] [] pos):=λX g=>PE.of (Fi (Be g.room) (ha X g) (hb X g) (hc X g) (hM X)) λs H Q q=>by
 obtain⟨r,j,h,d,h',l,M,e,q⟩:=q;obtain⟨x,C,P,e⟩:=Ev.ai e;obtain⟨y,F,W,e⟩:=Ev.ai e;obtain⟨z,h3,Y,e⟩:=Ev.ai e;obtain⟨e,rfl⟩:=Ev.aJ e;obtain⟨i,HY,o,k,rfl,Z,y1,rfl,rfl⟩:=J9 e;refine⟨r,j,h,.ref i,C,l,M,P,λv H1 r1 v1 f f1=>?_⟩;obtain⟨p0,I,w2,w3⟩:=f.dct Z;obtain⟨p,rfl,J⟩:=id v1;rw[I]at J;cases J;refine⟨p0,rfl,.inl ⟨_,.inl w2⟩,r1,j,C,.int k,F,l.mono f1,f,W,λu H2 r2 v2 A f2=>?_⟩;refine⟨r2,j,F,z,_,(l.mono f1).mono f2,A,Y,λt H3 K v3 B f3=>?_⟩;obtain⟨p1,x1,x2,x3⟩:=B.dct y1;have L:=f3.pre _ _ (f2.pre _ _ I);rw[x1]at L;cases L;cases v2;have g:=mQ.k (k:=Sum.inl k) x2;rw[zG]at g;refine⟨_,g,?_⟩;cases ev:Ev.bU o k with
 |none=>rw[ev]at q;exact q _ H3 K v3 B ((f1.trans f2).trans f3)
 |some s2=>
  rw[ev]at q;obtain⟨q0,C8,rfl⟩:=zI ev;exact q _ H3 K ⟨rfl,x3 q0 C8⟩ B ((f1.trans f2).trans f3)
def Kc(ho:JE G n sc N df m a xa)(hi:JE G n sc N df m b xb)(hv:JE G n sc N df m c xc)(hs:∀env:Env,swapsWith xc (some (.Subscript xa xb tp)) pos.line env=pure false:=by intro _;rfl):JS G n sc N df m (.dput a b c) (.Assign [.Subscript xa xb tp] xc pos):=λX g=>PS.of (JX (Be g.room) (ho X g) (hi X g) (hv X g) (hs _)) λQ s H q=>by
 obtain⟨r,j,h,fl,aj,h',f,P,e,q⟩:=q;obtain⟨x,C,W,e⟩:=Ev.ai e;obtain⟨y,F,Y,e⟩:=Ev.ai e;obtain⟨z,Z,e3,e⟩:=Ev.ai e;refine⟨r,j,h,x,C,f,P,W,λv H1 r1 v1 l f1=>?_⟩;refine⟨r1,j,C,y,F,f.mono f1,l,Y,λu H2 r2 v2 o f2=>?_⟩;refine⟨r2,j,F,z,Z,(f.mono f1).mono f2,o,e3,λt H3 r3 v3 I f3=>?_⟩;split at e
 .rename_i h5 e5;cases e;obtain⟨i,d,k,w,rfl,rfl,rfl,J,hl,rfl⟩:=FE e5;obtain⟨p1,A,B,x3⟩:=I.dct J;obtain⟨p,rfl,L⟩:=v2.mono f3;rw[A]at L;cases L;cases v3;obtain⟨rfl,lw⟩:=(v1.mono f2).mono f3;have lk:(dQ d).length<sizeLine:=by unfold dQ;rw[ZF];exact hl
  have g:=wJ.k (k:=Sum.inl k) (v:=V.str (bF w)) B lk;rw[zH]at g;refine⟨p1,_,rfl,g,?_⟩;have M:=Fm.dput (K:=X.K) (ws:=dQ (Ev.cF d k w)) B (ZA A);exact q _ _ r3 ((((f.mono f1).mono f2).mono f3).mono M) (I.dput J A B λp hp=>(zJ hp).elim (x3 p) λz=>by rw[z];exact lw) (((f1.trans f2).trans f3).trans M)
 ·exists e
end
end Sm
namespace L2
open PySem PySem.Spec PyProof.Rows
def RP{X:Cx}{pins:Ω}{σ:St}{H:Hp}{s:Shared}{A:Around}{E:Φ}{a b:Addr}{kvs more:List (Key×V)}{Q:Φ}(I:Inv X pins σ H s)(Z:H a=some (.dK kvs))(eb:H b=some (.dK more))(ne:a≠b)(hz:kvs.length+more.length<=sizeLine)(h:∀s',Inv X pins σ (upd H a (.dK (kB kvs more))) s'->Q .none s'):wpAny (model X.prog X.w) A (call (.builtin "dict.update") [.ref a,.ref b]) Q E s:=by
 obtain⟨z,g,i,c,dd⟩:=vS I.hok Z;obtain⟨r,d,j,Nx,e⟩:=vS I.hok eb;refine call_meetsIn PySem.F.slot_dict_update dd.typeIs PySem.F.entry_dict_update (PySem.F.args_dict_update_2 _ _) (meets_dict_update (bq X.prog X.w) a b ne d) ⟨i,j,dd,e,by rw[<-c.length,<-Nx.length];exact hz,λl f _ o=>h _ ?_⟩;have p:∃q,l.get? a=some q:=let ⟨q,_,_,hq,_⟩:=f;⟨q,hq⟩;exact tT (t':=s.toks) I (by rw[Z];exact True.intro) o p (CT (ZL (nu _ _) hz) g (Nx.merge c) f)
def RQ(z ty:TE):TE:=λσ H Q=>z σ H λx H1=>∃a,x=.ref a/\ML H1 a/\ty σ H1 λy H2=>∃b kvs more,y=.ref b/\a≠b/\H2 a=some (.dK kvs)/\H2 b=some (.dK more)/\kvs.length+more.length<=sizeLine/\Q .aU (upd H2 a (.dK (kB kvs more)))
def Kd{X:Cx}{o e:Expr}{apos cpos:Pos}{Z ty:TE}(ho:PE X o Z)(he:PE X e ty)(m:M1 X o "update" apos e cpos):PE X (.Call (.Attribute o "update" apos) [e] [] cpos) (RQ Z ty):=by
 intro c s σ H Q I h;refine wpAny_Call_method m.base m.few m.line PySem.F.plainAttrs_dict PySem.F.slot_dict_update PySem.F.type_dict_update (bI (ho c s σ H _ I h) λu s1 zr=>?_);obtain⟨x,H1,I1,g,a,ex,d,i⟩:=zr;subst ex;obtain rfl:u=Value.ref a:=g;obtain⟨j,l,_⟩:=CV I1 d;refine⟨j,l,?_⟩;rw[m.trees];refine abm rfl (abD (aaC (bI (he c s1 σ H1 _ I1 i) λp s2 ⟨y,H2,I2,q,b,r,f,z,A,B,C,hz,G⟩=>aaY ?_)));subst z;obtain rfl:p=Value.ref b:=q;exact RP I2 B C A hz λs3 I3=>⟨.aU,_,I3,rfl,G⟩
end L2
namespace Sm
open PySem PySem.Spec PyProof.Rows L2 PySem.SeqAt
open Ev (D O Hh Fr R aE E Es Eo T S Ss Fl Src bA br TY BI ME)
theorem u6:∀(m k:Θ),kB (dQ k) (dQ m)=dQ (Ev.cj k m)
 |[],k=>rfl
 |p :: m,k=>by
  show kB (putK (dQ k) (Sum.inl p.1) (V.str (bF p.2))) (dQ m)=_;rw[zH];exact u6 m _
theorem vc:∀{m k:Θ}{p:Int×Ξ},p∈Ev.cj k m->p∈k\/∃q∈m,q.2=p.2
 |[],k,p,h=>.inl h
 |q :: m,k,p,h=>by
  have h:p∈Ev.cj (Ev.cF k q.1 q.2) m:=h;rcases vc h with h|⟨a,b,c⟩
  .rcases zJ h with h|h
   .exact .inl h
   .exact .inr ⟨q,.head _,h.symm⟩
  .exact .inr ⟨a,.tail _ b,c⟩
def FF{h h' h0:Hh}{x y:D}(e:Ev.vU x y h h0=some h'):∃n m k0 k j,x=.ref n/\y=.ref m/\h0[n]?=some (.dct k0)/\h[n]?=some (.dct k)/\h[m]?=some (.dct j)/\n≠m/\k.length+j.length<=Ev.big/\h'=h.set n (.dct (Ev.cj k j)):=by
 unfold Ev.vU at e;split at e
 .rename_i n m;split at e
  .rename_i k0 k j a c d;split at e
   .rename_i b
    exists e
    refine⟨n,m,k0,k,j,rfl,rfl,?_,c,d,b.1,b.2,rfl⟩;simp only[Ev.eW]at a;split at a
    .rename_i z;exists a;exact z
    ·exists a
   ·exists e
  ·exists e
 ·exists e
section
variable{G:Tb}{n:Nat}{sc:Scope}{N:Y1}{df:Bool}{m:Ξ}{a b:E}{xa xb:Expr}{pos:Pos}
def Ke{apos p2:Pos}(ha:JE G n sc N df m a xa)(hb:JE G n sc N df m b xb)(hM:∀X:Cx,M1 X xa "update" apos xb p2:=by intro X;exact⟨rfl,rfl,rfl,rfl⟩)(hs:∀env:Env,swapsWith (.Call (.Attribute xa "update" apos) [xb] [] p2) none pos.line env=pure false:=by intro _;rfl):JS G n sc N df m (.j0 a b) (.Expr (.Call (.Attribute xa "update" apos) [xb] [] p2) pos):=λX g=>PS.of (zp (Kd (ha X g) (hb X g) (hM X)) (hs _)) λQ s H q=>by
 obtain⟨r,F,h,fl,aj,h',o,hr,e,q⟩:=q;simp only[Ev.g7,Ev.rC]at e;obtain⟨x,I,e1,e⟩:=Ev.ai e;obtain⟨y,h2,e2,e⟩:=Ev.ai e;split at e
 .rename_i h3 e3;cases e;obtain⟨i,j,k0,k,l,rfl,rfl,y0,A,J,ne,hl,rfl⟩:=FF e3;refine⟨r,F,h,.ref i,I,o,hr,e1,λv H1 r1 v1 d f1=>?_⟩;obtain⟨B,L,w2,w3⟩:=d.dct y0;obtain⟨p,rfl,M⟩:=id v1;rw[L]at M;cases M;refine⟨B,rfl,.inl ⟨_,.inl w2⟩,r1,F,I,.ref j,h2,o.mono f1,d,e2,λu H2 r2 v2 c f2=>?_⟩;obtain⟨p1,f,C,x3⟩:=c.dct A;have P:=f2.pre _ _ L;rw[f]at P;cases P;obtain⟨W,Y,x6,x7⟩:=c.dct J;obtain⟨p4,rfl,Z⟩:=id v2;rw[Y]at Z;cases Z;have WZ:B≠W:=λz=>ne (by subst z;exact c.kD i j B k l f Y A J);refine⟨W,_,_,rfl,WZ,C,x6,?_,?_⟩
  .unfold dQ;rw[ZF,ZF,<-rF];exact hl
  rw[u6];have fp:=Fm.dput (K:=X.K) (ws:=dQ (Ev.cj k l)) C (ZA f);exact q _ _ r2 (((o.mono f1).mono f2).mono fp) (c.dput A f C λp hp=>(vc hp).elim (x3 p) λ⟨q,hq,z⟩=>by rw[<-z];exact x7 q hq) ((f1.trans f2).trans fp)
 ·exists e
def FG{P:aE}{w i x y f:Nat}{ss:Ss}{fr:Fr}{h:Hh}:Ev.exs P w (.cons (.gT i x y f) ss) fr h=Ev.exs P w (.cons (.set i .gf) (.cons (.for (.one x) (.seq (.v y)) (.cons (.j0 (.v i) (.cl f (.cons (.v x) .nil))) .nil)) ss)) fr h:=by
 conv=>lhs;rw[Ev.exs,Ev.ex]
 conv=>rhs;rw[Ev.exs,Ev.ex,Ev.ev]
 simp only[Ev.ao];rw[Ev.exs,Ev.ex]
 congr 2
 funext s h1
 congr 1
 funext d aq h2
 cases Ev.bD (.one x) d aq with
 |none=>rfl
 |some c=>
  simp only[Ev.exs,Ev.g7];cases Ev.rC P (.v i) (.cl f (.cons (.v x) .nil)) c h2 with
  |bad=>rfl
  |ok p e=>
   obtain⟨g,q⟩:=p;cases g<;>rfl
def FH{i x y f:Nat}{ss:Ss}{s1 s2:Stmt}{xs:List Stmt}(h:kE G n sc N df m (.cons (.set i .gf) (.cons (.for (.one x) (.seq (.v y)) (.cons (.j0 (.v i) (.cl f (.cons (.v x) .nil))) .nil)) ss)) (s1 :: s2 :: xs)):kE G n sc N df m (.cons (.gT i x y f) ss) (s1 :: s2 :: xs):=λX g=>gm.of (h X g) λQ s H q=>by
 obtain⟨r,c,h,fl,d,j,l,o,e,q⟩:=q;rw[FG]at e;exact⟨r,c,h,fl,d,j,l,o,e,q⟩
end
end Sm
namespace Sm
open PySem PySem.Spec PyProof.Rows L2
open Ev (D O Hh Fr R aE E Es Eo T S Ss Fl Src bA br TY BI ME)
theorem tY(env:Env):∀(names:List (Str×NameKind)) (I:List (Str×Addr)),(∀x,(x,NameKind.free)∈names->∃c,env.cells.lookup x=some c)->(∀x c,I.lookup x=some c->env.cells.lookup x=some c)->
  ∃cl,(forIn names I (λ(x:Str×NameKind) cs=>if (x.2==NameKind.free)=true then (do let c <-cellOf env x.1;pure (ForInStep.yield ((x.1,c) :: cs)))else pure (ForInStep.yield cs)):Sem (List (Str×Addr)))=pure cl/\
   (∀x c,cl.lookup x=some c->env.cells.lookup x=some c)/\(∀x,(x,NameKind.free)∈names->(cl.lookup x).isSome=true)/\(∀x,(I.lookup x).isSome=true->(cl.lookup x).isSome=true)
 |[],I,_,h2=>⟨I,rfl,h2,(λx h=>by simp at h),λ_ h=>h⟩
 | (y,k) :: r,I,h1,h2=>by
  by_cases f:k=.free
  .subst f;obtain⟨c,q⟩:=h1 y (ZX ..);have g:∀x b,((y,c) :: I).lookup x=some b->env.cells.lookup x=some b:=λx b e=>by
    rw[aay]at e;split at e
    .rename_i a;have i:x=y:=by simpa using a
     cases e;rw[i];exact q
    .exact h2 x b e
   obtain⟨cl,j,l,o,d⟩:=tY env r ((y,c) :: I) (λx a=>h1 x (ZN _ a)) g;refine⟨cl,?_,l,λx a=>?_,λx a=>d x ?_⟩
   .rw[List.forIn_cons];unfold cellOf;rw[q];exact j
   .rcases qE a with z|z
    .cases z;exact d y (by simp[aay])
    .exact o x z
   .rw[aay];split
    .rfl
    .exact a
  .have p:(k==NameKind.free)=false:=by simpa using f
   obtain⟨cl,j,l,o,d⟩:=tY env r I (λx a=>h1 x (ZN _ a)) h2;refine⟨cl,?_,l,λx a=>?_,d⟩
   .rw[List.forIn_cons];simp only[p,aaD,abn];exact j
   .rcases qE a with z|z
    .cases z;exact absurd rfl f
    .exact o x z
def Kf(h:∀x,(x,NameKind.free)∈scope.names->∃c,env.cells.lookup x=some c):
  ∃cl,closureFor scope env=pure cl/\(∀x c,cl.lookup x=some c->env.cells.lookup x=some c)/\∀x,(x,NameKind.free)∈scope.names->∃c,cl.lookup x=some c:=by
 obtain⟨cl,a,b,d,_⟩:=tY env scope.names [] h (λx c e=>by simp at e);refine⟨cl,?_,b,λx f=>gN (d x f)⟩;have e:=a;exact ZJ (λt:Sem (List (Str×Addr))=>t >>= λg=>pure g) e
def iZ(sc scope:Scope):Scope:={ scope with names:=scope.names.map λ(n,k)=>if (k==.free&&sc.kind==.function&&sc.names.lookup n==some .cell)then (n,.cell)else (n,k)}
def tZ(h:env.scope=sc):relabel scope env=iZ sc scope:=by
 subst h;rfl
theorem vd{sc:Scope}:∀{names:List (Str×NameKind)}{x:Str},(∀y∈names,y.2≠.cell)->
  ((names.map λ(n,k)=>if (k==NameKind.free&&sc.kind==.function&&sc.names.lookup n==some .cell)then (n,NameKind.cell)else (n,k)).lookup x=some .cell\/
   (names.map λ(n,k)=>if (k==NameKind.free&&sc.kind==.function&&sc.names.lookup n==some .cell)then (n,NameKind.cell)else (n,k)).lookup x=some .free)->(x,NameKind.free)∈names
 |[],_,_,h=>by rcases h with h|h<;>simp at h
 | (n,k) :: r,x,hc,h=>by
  have i:=@vd sc r x λy j=>hc y (ZN _ j);simp only[WL]at h;have d:∀(a:NameKind),(if (k==NameKind.free&&sc.kind==.function&&sc.names.lookup n==some .cell)then (n,NameKind.cell)else (n,k))=(n,a)->a=.cell\/a=.free->k=.free:=λa e b=>by
   split at e
   .rename_i z;simp only[yK,acu]at z;exact z.1.1
   .cases e;rcases b with z|z
    .exact absurd z (hc (n,_) (ZX ..))
    .exact z
  generalize hg:(if (k==NameKind.free&&sc.kind==.function&&sc.names.lookup n==some .cell)then (n,NameKind.cell)else (n,k))=p at h d
  have f:p.1=n:=by rw[<-hg];split<;>rfl
  obtain⟨g,l⟩:=p;simp only at f;subst f;simp only[aay]at h;cases hx:(x==g)with
  |true=>
   have c:x=g:=by simpa using hx
   rw[hx]at h;have:=d l rfl (by rcases h with h|h<;>simp at h<;>simp[h]);subst this;rw[c];exact ZX ..
  |false=>
   rw[hx]at h;exact ZN _ (i h)
section
variable{prog:Program}{w:World}{A:Around}{R':Result->Shared->Prop}{s:Shared}
abbrev eG:Φ:=λ_ _=>False
def zL(z:Kj)(env:Env):Sem Bool:=forIn z true λc r=>if r=true then do let ok <-isTrue c env (eval c env);pure (ForInStep.yield ok)else pure (ForInStep.yield r)
def w9{elt z Z:Expr}{ifs:Kj}{scope:Scope}{pos:Pos}{it acc:Value}{env:Env}(I:Nat->Shared->Prop)(turn:∀n s,I n s->wpAny (model prog w) A (pyNext it) (λr s₁=>match r with
   |none=>R' (.ok .next) s₁
   |some v=>wpAny (model prog w) A (letOwnedTupleGo z it v) (λ_ s₂=>wpAny (model prog w) A (assign z env v) (λ_ s₃=>
     wpAny (model prog w) A (zL ifs env) (λok s₄=>
      if ok=true then wpAny (model prog w) A (eval elt env) (λx s₅=>
       wpAny (model prog w) A (call (.builtin "list.append") [acc,x]) (λ_ s₆=>∃m,m<n/\I m s₆) eG s₅) eG s₄
      else ∃m,m<n/\I m s₄) eG s₃) eG s₂) eG s₁) eG s)(n:Nat)(h:I n s):codeAny (model prog w) A (.compLoop (.ListComp elt [⟨z,Z,ifs,0⟩] scope pos) 0 it acc env) R' s:=by
 refine codeAny_loop rfl I (λn s d=>?_) n h;show wpAny _ A ((compTurn (.ListComp elt [⟨z,Z,ifs,0⟩] scope pos) 0 it acc env).onRaise (λx=>do noteFrame x env;theTreesLotGoes x)) _ _ s;refine wpAny_noted ?_;rw[compTurn_list];refine gH (wpAny_standAt (gH (ZT (turn n s d) (λr s₁ b=>?_) λ_ _ a=>a.elim)));cases r with
 |none=>exact Ws b
 |some v=>
  refine gH (ZT b (λ_ s₂ e=>?_) λ_ _ a=>a.elim);refine gH (ZT e (λ_ s₃ f=>gH (ZT f (λok s₄ c=>?_) λ_ _ a=>a.elim)) λ_ _ a=>a.elim);cases ok with
  |false=>exact Ws ⟨rfl,c⟩
  |true=>
   exact gH (gH (ZT c (λx s₅ g=>gH (ZT g (λ_ s₆ i=>Ws (Ws ⟨rfl,i⟩)) λ_ _ a=>a.elim)) λ_ _ a=>a.elim))
end
inductive Tu(K:Ψ)(m:Ξ)(P:aE)(e:Eo)(s:L2.St)(H:Hp)(Q:Bool->Hp->Prop):Prop
 |mk (r:Y2) (fr:Fr) (h:Hh) (k:Bool) (h':Hh) (c0:SR K m H r fr s) (c1:HR K H r h) (c2:Ev.kR P e fr h=.ok k h') (c3:∀H' r',HR K H' r' h'->Fm K r r' H H'->Q k H'):Tu K m P e s H Q
def JC(G:Tb)(n:Nat)(sc:Scope)(N:Y1)(df:Bool)(m:Ξ)(e:Eo)(z:Kj):Prop:=∀X,Good G n sc N df X->∀(pins:Ω) (s:Shared) (σ:L2.St) (H:Hp) (Q:Bool->Hp->Prop),Inv X pins σ H s->
 Tu X.K m (Ev.run G.F G.w n) e σ H Q->wpAny (model X.prog X.w) X.A (zL z X.env) (TP X pins σ Q) X.xe s
section
variable{G:Tb}{n:Nat}{sc:Scope}{N:Y1}{df:Bool}{m:Ξ}{a:E}{xa:Expr}
def RS:JC G n sc N df m .no []:=λX g pins s σ H Q I q=>by
 obtain⟨r,c,h,k,d,f,b,e,q⟩:=q
 exists e
 exact Ws ⟨H,I,q H r b .refl⟩
def Ny(hc:JT G n sc N df m a xa):JC G n sc N df m (.yes a) [xa]:=λX g pins s σ H Q I q=>by
 obtain⟨r,b,h,k,c,d,f,e,q⟩:=q;exact wpAny_tests_one (hc X g pins s σ H Q I ⟨r,b,h,k,c,d,f,e,q⟩)
end
def rK(X:Cx)(z:Y1)(scope:Scope)(cl:List (Str×Addr))(C:Addr)(s3:Shared)(I:Hp)(fp:Y2):Cx:=
 { X with N:=z,s₀:=s3,H₀:=I,env:=compEnvC scope cl C X.env,outer:=X.stack,stack:=X.stack,ex:=fp,fn:=λ_=>false,pn:=[],xe:=λ_ _=>False }
def namesOk(sc:Scope)(N:Y1)(m:Ξ)(scope:Scope)(t:T)(z:Y1)(m':Ξ):Prop:=m'.length=z.length/\
 ∀(j:Nat) x i,z[j]?=some x->m'[j]?=some i->i∈Ev.slots t\/((x,NameKind.free)∈scope.names/\∃jo:Nat,N[jo]?=some x/\m[jo]?=some i)
def xg(sc:Scope)(N:Y1)(m:Ξ)(scope:Scope)(t:T)(z:Y1)(m':Ξ):Bool:=m'.length==z.length&&
 (List.range z.length).all λj=>match z[j]?,m'[j]? with
  |some x,some i=>(Ev.slots t).contains i || (scope.names.contains (x,NameKind.free)&&(List.range N.length).any λa=>N[a]?==some x&&m[a]?==some i)
  |_,_=>true
def namesOk.of(h:xg sc N m scope t N' m'=true):namesOk sc N m scope t N' m':=by
 unfold xg at h;rw[yK]at h;refine⟨by simpa using h.1,λj x i a c=>?_⟩;have d:=(gL a).1;have q:=List.all_eq_true.mp h.2 j (List.mem_range.mpr d);rw[a,c]at q;simp only[aaf,yK,List.any_eq_true]at q;rcases q with q|⟨e,f,_,b⟩
 .exact .inl (by simpa using q)
 .exact .inr ⟨by simpa using e,f,by simpa using b.1,by simpa using b.2⟩
def y9(e:Ev.bD t d fr=some aq)(hi:i∉Ev.slots t):aq[i]?=fr[i]?:=by
 have b:∀(l:Ξ) (ds:T1) (fr aq:Fr),Ev.cR l ds fr=some aq->i∉l->aq[i]?=fr[i]?:=by
  intro l;induction l with
  |nil=>
   intro ds fr aq e _;cases ds with
   |nil=>exists e;rfl
   |cons _ _=>exists e
  |cons j l c=>
   intro ds fr aq e a;cases ds with
   |nil=>exists e
   |cons d ds=>
    rw[c ds _ _ e λz=>a (ZN _ z),AN];intro z;exact a (by rw[z];exact ZX ..)
 cases t with
 |one j=>
  exists e
  rw[AN];intro z;exact hi (by simp[Ev.slots,z])
 |many l=>
  cases d with
  |tup ds=>exact b l ds fr aq e hi
  |_=>exists e
def SR.unbind{K:Ψ}(sr:SR K m H r aq s)(e:Ev.bD t d fr=some aq)(z:Ev.undef t fr=true):SR K m H r fr s:=by
 refine⟨sr.len,λj i b c a=>sr.sl j i b c ?_⟩;rw[y9 e]
 .exact a
 .intro f;have q:=List.all_eq_true.mp z i f;rw[a]at q
  exists q
structure nY(sc scope:Scope):Prop where
 kind:scope.kind=.function
 C9:∀y∈scope.names,y.2≠.cell
 free:∀x,(x,NameKind.free)∈scope.names->(sc.names.lookup x=some .cell\/sc.names.lookup x=some .free)/\scope.names.lookup x=some .free
 loc:∀y∈scope.names,y.2=.local->scope.names.lookup y.1=some .local
def Nz(sc scope:Scope):Bool:=scope.kind==.function&&scope.names.all λy=>y.2 != .cell&&(y.2 != .free || ((sc.names.lookup y.1==some .cell ||sc.names.lookup y.1==some .free)&&scope.names.lookup y.1==some .free))&&(y.2 != .local ||scope.names.lookup y.1==some .local)
def nY.of(h:Nz sc scope=true):nY sc scope:=by
 unfold Nz at h;rw[yK]at h;have q:∀y∈scope.names,y.2≠.cell/\(y.2=.free->(sc.names.lookup y.1=some .cell\/sc.names.lookup y.1=some .free)/\scope.names.lookup y.1=some .free)/\(y.2=.local->scope.names.lookup y.1=some .local):=λy a=>by
  have z:=List.all_eq_true.mp h.2 y a;simp only[yK,aaf,bne_iff_ne,acu,ne_eq]at z;refine⟨z.1.1,λe=>?_,λe=>?_⟩
  .rcases z.1.2 with w|w
   .exact absurd e w
   .exact w
  .rcases z.2 with w|w
   .exact absurd e w
   .exact w
 exact⟨by simpa using h.1,λy a=>(q y a).1,λx b=>(q _ b).2.1 rfl,λy a=>(q y a).2.2⟩
theorem ve{sc:Scope}:∀{names:List (Str×NameKind)}{x:Str},names.lookup x=some .free->
  ((names.map λ(n,k)=>if (k==NameKind.free&&sc.kind==.function&&sc.names.lookup n==some .cell)then (n,NameKind.cell)else (n,k)).lookup x=some .cell\/
   (names.map λ(n,k)=>if (k==NameKind.free&&sc.kind==.function&&sc.names.lookup n==some .cell)then (n,NameKind.cell)else (n,k)).lookup x=some .free)
 |[],_,h=>by simp at h
 | (n,k) :: r,x,h=>by
  have a:=@ve sc r x;simp only[WL];simp only[aay]at h;by_cases b:(k==NameKind.free&&sc.kind==.function&&sc.names.lookup n==some .cell)=true
  .rw[gV b];simp only[aay];cases hx:(x==n)with
   |true=>exact .inl rfl
   |false=>rw[hx]at h;exact a h
  .rw[Yl b];simp only[aay];cases hx:(x==n)with
   |true=>rw[hx]at h;exact .inr h
   |false=>rw[hx]at h;exact a h
section
variable{G:Tb}{n:Nat}{sc scope:Scope}{N N':Y1}{df:Bool}{m m':Ξ}{t:T}{X:Cx}
def Good.comp(g:Good G n sc N df X):Good G n (iZ sc scope) N' false (rK X N' scope cl C s3 H3 fp):=
 ⟨rfl,tZ g.sc,g.calm,(λh=>by exists h),g.room,rfl,g.fn,g.bl,g.cs,g.dk
 ⟩
def Kg{pins:Ω}{σ:L2.St}{H3:Hp}{s3:Shared}(g:Good G n sc N df X)(I:Inv X pins σ H3 s3)(hs:nY sc scope){cl:List (Str×Addr)}(j3:∀x c,cl.lookup x=some c->X.env.cells.lookup x=some c)(nZ:∀x,(x,NameKind.free)∈scope.names->∃c,cl.lookup x=some c){fp:Y2}(Z:∀b∈fp,gS X pins H3 b)(hfl:∀b∈fp,b<s3.heap.objs.size):(rK X N' scope cl s3.heap.objs.size s3 H3 fp).Ok where
 mod:=I.ok.mod
 kind:=hs.kind
 glob:=I.ok.glob
 blt:=I.ok.blt
 above:=Zw _
 inj:=λx y c d f=>I.ok.inj x y c (j3 x c d) (j3 y c f)
 has:=λx h=>by
  have i:(iZ sc scope).names.lookup x=some .cell\/(iZ sc scope).names.lookup x=some .free:=by
   rw[<-tZ (scope:=scope) g.sc];exact h
  exact nZ x (vd hs.C9 i)
 wm:=λx c h=>by exists h
 hd:=I.ok.hd
 frames:=I.ok.frames
 stk:=.inl rfl
 Cu:=λb a=>⟨ZR (hfl b a),λx c e=>(Z b a).2.2.2.2.1 x c (j3 x c e)⟩
 bs:=I.bs
 qW:=ZL I.ok.qW I.sz
 ql:=λb o e a=>by
  rcases(Z b a).2.2.2.1 with z|z
  .exact I.ok.ql b o e z
  .have:=ZI (I.ok.bs b o e).1;exact absurd (Uv this z) (aat _)
 qm:=λb a z=>by
  rcases qE (I.qX b z)with q|q
  .exact(Z b a).2.1 q
  .exact(Z b a).2.2.1 q
 jm:=I.stack
 uJ:=I.tO
open Classical in
def sig(scope:Scope)(N N':Y1)(m':Ξ)(K:Ψ)(H:Hp)(r:Y2)(fr:Fr)(σ:L2.St):L2.St:=
 (List.range N'.length).map λj=>if h:∃v,∃x i,N'[j]?=some x/\m'[j]?=some i/\(x,NameKind.free)∈scope.names/\(∃jo:Nat,N[jo]?=some x/\σ[jo]?=some (some v))/\∀d,fr[i]?=some (some d)->RV K H r d v then some h.choose else none
def NB{K:Ψ}{j:Nat}(h:(sig scope N N' m' K H r fr σ)[j]?=some (some v)):
  ∃x i,N'[j]?=some x/\m'[j]?=some i/\(x,NameKind.free)∈scope.names/\(∃jo:Nat,N[jo]?=some x/\σ[jo]?=some (some v))/\∀d,fr[i]?=some (some d)->RV K H r d v:=by
 unfold sig at h;rw[aaa]at h;cases e:(List.range N'.length)[j]? with
 |none=>rw[e]at h;exists h
 |some b=>
  have:=getElem?_range' e;rw[e]at h;simp only[ach,abS]at h;split at h
  .rename_i a
   exists h
   exact a.choose_spec
  ·exists h
def NC{K:Ψ}(sr:SR K m H r fr σ)(Z:namesOk sc N m scope t N' m')(hu:Ev.undef t fr=true):SR K m' H r fr (sig scope N N' m' K H r fr σ):=by
 refine⟨by unfold sig;simp[Z.1],λj i d b c=>?_⟩;have e:j<N'.length:=by rw[<-Z.1];exact(gL b).1
 have f:=Zy e;rcases Z.2 j _ i f b with l|⟨o,a,p,y⟩
 .exfalso;have q:=List.all_eq_true.mp hu i l;rw[c]at q
  exists q
 .obtain⟨v,z,A⟩:=sr.sl a i d y c;have ex:∃v,∃x i,N'[j]?=some x/\m'[j]?=some i/\(x,NameKind.free)∈scope.names/\(∃a:Nat,N[a]?=some x/\σ[a]?=some (some v))/\∀d,fr[i]?=some (some d)->RV K H r d v:=
   ⟨v,N'[j],i,f,b,o,⟨a,p,z⟩,λC g=>by rw[c]at g;cases g;exact A⟩
  refine⟨ex.choose,?_,?_⟩
  .unfold sig;rw[aaa,abG e];simp only[ach];rw[dif_pos ex]
  .obtain⟨F,I,J,h,L,M,B⟩:=ex.choose_spec;rw[b]at h;exists h;exact B d c
def FJ{pins:Ω}{σ:L2.St}{H3:Hp}{s3:Shared}(g:Good G n sc N df X)(I:Inv X pins σ H3 s3)(hs:nY sc scope){cl:List (Str×Addr)}(j3:∀x c,cl.lookup x=some c->X.env.cells.lookup x=some c)(nZ:∀x,(x,NameKind.free)∈scope.names->∃c,cl.lookup x=some c){fp:Y2}(hfp:∀b∈fp,gS X pins H3 b)(hfl:∀b∈fp,b<s3.heap.objs.size){h1:Heap}{tk:Nat}{mm:Kx}(hns:h1.Ns s3.heap.objs.size mm)(hk:∀b o,s3.heap.get? b=some o->h1.get? b=some o){r:Y2}{fr:Fr}:
  Inv (rK X N' scope cl s3.heap.objs.size s3 H3 fp) [] (sig scope N N' m' X.K H3 r fr σ) H3 { s3 with heap:=h1,toks:=tk }:=by
 refine⟨Kg g I hs j3 nZ hfp hfl,rfl,I.bare,Un.kept hk,⟨mm,hns,λj x v B C W=>?_⟩,λx c e=>?_,I.hok.fresh (Zw _),λx c e=>I.gk x c (j3 x c e),(λp F=>by simp[rK]at F),I.hok.kept hk,(by unfold sig;simp[rK])⟩
 .obtain⟨Y,i,y,Z,A,⟨H,J,L⟩,_⟩:=NB C;have W0:N'[j]?=some x:=B;rw[W0]at y;cases y;obtain⟨f1,f2⟩:=hs.free x A;obtain⟨mO,Zi,W2⟩:=I.loc;obtain⟨u,M,P⟩:=W2 H x v (by rw[g.nm];exact J) L (by rw[g.sc];rcases f1 with z|z<;>simp[zk,z]);refine⟨u,M,?_⟩;have f:X.env.kindOf x=some .cell\/X.env.kindOf x=some .free:=by unfold Env.kindOf;rw[g.sc];exact f1
  rcases P with ⟨z,_⟩|⟨_,c,Q,a⟩
  .rcases f with w|w <;> (rw[z]at w;cases w)
  .obtain⟨h,d⟩:=nZ x A;have:h=c:=by
    have:=j3 x h d;rw[Q]at this;exists this;rfl
   subst this;refine .inr ⟨?_,h,d,?_⟩
   .show(relabel scope X.env).names.lookup x=some .cell\/(relabel scope X.env).names.lookup x=some .free;rw[tZ (scope:=scope) g.sc];exact ve f2
   .obtain⟨o,l,q⟩:=a;exact⟨o,hk _ _ l,q⟩
 .obtain⟨v,o,l,q⟩:=I.cell x c (j3 x c e);exact⟨v,o,hk _ _ l,q⟩
end
section
variable{G:Tb}{n:Nat}{sc scope:Scope}{N N':Y1}{df:Bool}{m m':Ξ}{elt:E}{t:T}{it:Ev.It}{cond:Eo}{xe xi tg:Expr}{ifs:Kj}{pos:Pos}{X:Cx}
def Bp(P:aE)(elt:E)(t:T)(cond:Eo)(fr:Fr):D->Hh->R (Option D):=λd c=>match Ev.bD t d fr with
 |none=>.bad
 |some a=>(Ev.kR P cond a c).bind λk b=>if k then (Ev.ev P elt a b).bind λx e=>.ok (some x) e else .ok none b
def t6(P:aE)(elt:E)(t:T)(it:Ev.It)(cond:Eo)(fr:Fr)(h:Hh):Ev.ev P (.comp elt t it cond) fr h=(Ev.cL P it fr h).bind λs h1=>if Ev.undef t fr then
  (Ev.cI (Bp P elt t cond fr) s.2 s.1 h1).bind λds h2=>Ev.alloc ds h2 else .bad:=by
 simp only[Ev.ev];rfl
inductive CI(Y:Cx)(m':Ξ)(f:D->Hh->R (Option D))(fr:Fr)(src:Src)(fp:Y2)(tn:Nat->Heap->Prop)(r2:Y2)(H2:Hp)(Dd:Addr)(ds:T1)(h2:Hh)(k:Nat)(s:Shared):Prop
 |mk (i:Nat) (qa:L2.St) (Hc:Hp) (rc:Y2) (hc:Hh) (dn:T1) (vs:Ty) (rest:T1) (c0:Inv Y [] qa Hc s) (c1:tn i s.heap) (c2:∀b∈fp,Hc b=none) (c3:k=src.1.length - i) (c4:i<=src.1.length) (c5:SR Y.K m' Hc rc fr qa) (c6:HR Y.K Hc rc hc) (c7:Fm Y.K r2 rc H2 Hc) (c8:Hc Dd=some (.lst vs)) (c9:Dd∉rc) (d0:aT Y.K Hc rc dn vs) (d1:Ev.cI f src.2 (src.1.drop i) hc=.ok rest h2) (d2:dn++rest=ds):CI Y m' f fr src fp tn r2 H2 Dd ds h2 k s
section
variable{Y:Cx}{sc':Scope}{J:L2.It}{fp:Y2}{ita:Addr}{tn:Nat->Heap->Prop}{fr:Fr}{src:Src}{r2:Y2}{H2:Hp}{Dd:Addr}{ds:T1}{h2:Hh}
def Bq(I:Good G n sc' N' false Y){α:Type}{tt:Sem α}{Q:α->Shared->Prop}(z:wpAny (model Y.prog Y.w) Y.A tt Q Y.xe s):wpAny (model Y.prog Y.w) Y.A tt Q eG s:=by rw[I.xe]at z;exact z
def zM{i:Nat}{nC:L2.St}{I:Hp}{Z:Y2}{h9:Hh}{dn:T1}{vs:Ty}{z:T1}{s9:Shared}{p:Ω}{f:D->Hh->R (Option D)}(hlt:i<src.1.length)(I9:Inv Y ([]++p) nC I s9)(bk:tn (i+1) s9.heap/\∀b∈fp,I b=none)(q:SR Y.K m' I Z fr nC)(vf:HR Y.K I Z h9)(fm:Fm Y.K r2 Z H2 I)(Br:I Dd=some (.lst vs))(Bs:Dd∉Z)(rv:aT Y.K I Z dn vs)(e7:Ev.cI f src.2 (src.1.drop (i+1)) h9=.ok z h2)(ed:dn++z=ds):
  ∃k,k<src.1.length - i/\CI Y m' f fr src fp tn r2 H2 Dd ds h2 k s9:=
 ⟨src.1.length - (i+1),acE hlt (aa3 i),i+1,nC,I,Z,h9,dn,vs,z,I9.mL,bk.1,bk.2,rfl,hlt,q,vf,fm,Br,Bs,rv,e7,ed⟩
def ND{i:Nat}{nC:L2.St}{H9:Hp}{r9:Y2}{h9:Hh}{dn:T1}{vs:Ty}{xd:D}{I:V}{vg:Value}{Z:T1}{s9:Shared}{p:Ω}{f:D->Hh->R (Option D)}(hlt:i<src.1.length)(nE:H2 Dd=none)(hsz:ds.length<=sizeLine)(gC:Good G n sc' N' false Y)(I9:Inv Y ([]++p) nC H9 s9)(FL:RelV I vg)(bk:∀{σ':L2.St}{H':Hp}{s':Shared},Inv Y ([]++p) σ' H' s'->tn (i+1) s'.heap/\∀b∈fp,H' b=none)(q:SR Y.K m' H9 r9 fr nC)(vf:HR Y.K H9 r9 h9)(fm:Fm Y.K r2 r9 H2 H9)(qb:H9 Dd=some (.lst vs))(xj:Dd∉r9)(rv:aT Y.K H9 r9 dn vs)(FO:RV Y.K H9 r9 xd I)(e7:Ev.cI f src.2 (src.1.drop (i+1)) h9=.ok Z h2)(ed:dn++xd :: Z=ds):
  wpAny (model Y.prog Y.w) Y.A (call (.builtin "list.append") [.ref Dd,vg]) (λ_ Dc=>∃k,k<src.1.length - i/\CI Y m' f fr src fp tn r2 H2 Dd ds h2 k Dc) eG s9:=by
 have a:vs.length<sizeLine:=by
  have o:=rv.length;have h2:=ZJ List.length ed;simp at h2;lia
 refine bI (Bq gC (uQ _ s9 nC H9 (.ref Dd) [I] (.ref Dd) [vg] (λ_ Tv=>Tv=upd H9 Dd (.lst (vs++[I]))) I9 rfl (.cons FL .nil) ⟨Dd,vs,I,rfl,rfl,qb,a,rfl⟩)) λ_ Dc zr=>?_;obtain⟨_,Tv,Tz,_,VY⟩:=zr;subst VY;refine zM (dn:=dn++[xd]) (vs:=vs++[I]) hlt Tz (bk Tz) ?_ (vf.other qb xj) (fm.other nE qb) e8 xj ?_ e7 ?_
 .exact⟨q.len,λj c d e g=>by
   obtain⟨w,h,l⟩:=q.sl j c d e g;exact⟨w,h,l.grow (λ_ _ z=>z) (iX qb)⟩⟩
 .exact(rv.append (.cons FO .nil)).grow (λ_ _ z=>z) (iX qb)
 .rw[<-ed];simp
def De(gC:Good G n sc' N' false Y)(hg:JG G n sc' N' false m' t tg)(hc:JC G n sc' N' false m' cond ifs)(he:JE G n sc' N' false m' elt xe)(Tn:Turn Y.prog Y.w Y.K tg J fp ita tn)(mP:∀{Hc:Hp},(∀b∈fp,Hc b=none)->∀b∈fp,gS Y [] Hc b)(hu:Ev.undef t fr=true)(hJ:qx Y.K r2 H2 src J)(nE:H2 Dd=none)(hsz:ds.length<=sizeLine)(VZ:∀s6 qa Hc rc vs,Inv Y [] qa Hc s6->HR Y.K Hc rc h2->Fm Y.K r2 rc H2 Hc->Hc Dd=some (.lst vs)->Dd∉rc->aT Y.K Hc rc ds vs->R' (.ok .next) s6)(h:CI Y m' (Bp (Ev.run G.F G.w n) elt t cond fr) fr src fp tn r2 H2 Dd ds h2 k s):codeAny (model Y.prog Y.w) Y.A (.compLoop (.ListComp xe [⟨tg,xi,ifs,0⟩] scope pos) 0 (.ref ita) (.ref Dd) Y.env) R' s:=by
 refine w9 (CI Y m' (Bp (Ev.run G.F G.w n) elt t cond fr) fr src fp tn r2 H2 Dd ds h2) ?_ k h;rintro k s5 ⟨i,qa,Hc,rc,hc',dn,vs,rest,I5,zu,nJ,rfl,hle,C7,uZ,xq,qb,xj,Df,a,HZ⟩;rcases Nat.lt_or_ge i src.1.length with d|L
 .rw[aaq d]at a;simp only[Ev.cI]at a;split at a
  .rename_i g;obtain⟨M,_⟩:=hJ i Hc rc hc' uZ xq g;obtain⟨g1,g2⟩:=M src.1[i] (Zy d);obtain⟨o,h6,c,a⟩:=Ev.ai a;obtain⟨P,h7,e7,a⟩:=Ev.ai a;cases a;refine bI (Tn.item Y rfl rfl rfl gC.calm i [] s5 qa Hc eG I5 (mP nJ) zu g1) λrr s6 zr=>?_;obtain⟨u,W3,h8⟩:=zr;subst W3;refine bI h8 λ_ s7 zr=>?_;obtain⟨x,H7,I7,rx,y7,NF,TF⟩:=zr;obtain⟨y,v7,TH,l⟩:=g2 x H7 y7;obtain⟨V0,V1⟩:=l.Bm qb xj;unfold Bp at c;split at c
   ·exists c
   .rename_i z Q;obtain⟨kk,W,e9,c⟩:=Ev.ai c;have W4:=I7.pinned (mP TF) (Tn.obj _ _ NF);refine bI (Bq gC (hg _ gC _ s7 qa H7 x u (λB H8=>H8=H7/\SR Y.K m' H7 y z B) W4 rx ⟨y,fr,hc',_,z,C7.mono l,TH,v7,Q,λC q=>⟨rfl,q⟩⟩)) λ_ s8 zr=>?_;obtain⟨B,H8,I8,W5,Ia⟩:=zr;subst W5;refine bI (Bq gC (hc _ gC _ s8 B _ (λb H9=>b=kk/\∃j,HR Y.K H9 j W/\Fm Y.K y j _ H9) I8 ⟨y,z,hc',kk,W,Ia,TH,e9,λH9 j H f9=>⟨rfl,j,H,f9⟩⟩)) λbb s9 zr=>?_;obtain⟨H9,I9,MJ,j,H,f⟩:=zr;subst MJ;obtain⟨Bs,Br⟩:=f.Bm V1 V0;have back:∀{σ':L2.St} {H':Hp} {C:Shared},Inv Y ([]++nI fp s7.heap) σ' H' C->tn (i+1) C.heap/\∀b∈fp,H' b=none:=λ{σ' H' C} I'=>
     ⟨Tn.keep _ _ _ NF λb I o e=>(I'.pin (b,o) (Z3 _ (Z3 _ (j7 I e)))).1,λb I=>
      let ⟨o,e,_⟩:=Tn.obj _ _ NF b I
      (I'.pin (b,o) (Z3 _ (Z3 _ (j7 I e)))).2.1⟩
    cases bb with
    |false=>
     cases c;exact zM d I9 (back I9) ((Ia.mono f).unbind Q hu) H ((xq.trans l).trans f) Br Bs ((Df.mono l).mono f) e7 HZ
    |true=>
     simp only[Z2]at c ⊢;obtain⟨xd,Zj,W6,c⟩:=Ev.ai c;cases c;refine bI (Bq gC (he _ gC _ s9 B H9 (λv Dg=>∃p,RV Y.K Dg p xd v/\HR Y.K Dg p _/\Fm Y.K j p H9 Dg) I9 ⟨j,z,W,xd,_,Ia.mono f,H,W6,λv Dg p r FP Ib=>⟨p,r,FP,Ib⟩⟩)) λvg TJ zr=>?_;obtain⟨r,Dg,W7,FL,p,FO,FP,Bt⟩:=zr;obtain⟨RT,RU⟩:=Bt.Bm Br Bs;exact ND d nE hsz gC W7 FL back (((Ia.mono f).mono Bt).unbind Q hu) FP (((xq.trans l).trans f).trans Bt) RU RT (((Df.mono l).mono f).mono Bt) FO e7 HZ
  ·exists a
 .have Z:i=src.1.length:=Nat.le_antisymm hle L;subst Z;rw[abp]at a;simp only[Ev.cI]at a;split at a
  .rename_i g;cases a;refine bI (Tn.done Y rfl rfl rfl gC.calm _ [] s5 qa Hc eG I5 (mP nJ) zu ((hJ _ Hc rc _ uZ xq g).2 (Zw _))) λrr s6 zr=>?_;obtain⟨hrr,I6⟩:=zr;subst hrr;rw[ZK]at HZ;subst HZ;exact VZ s6 qa Hc rc vs I6 uZ xq qb xj Df
  ·exists a
end
def Dh(g:Good G n sc N df X)(hi:JI G n sc N df m it tg xi)(hg:JG G n (iZ sc scope) N' false m' t tg)(hc:JC G n (iZ sc scope) N' false m' cond ifs)(he:JE G n (iZ sc scope) N' false m' elt xe)(hn:namesOk sc N m scope t N' m')(hs:nY sc scope){cl:List (Str×Addr)}(j3:∀x c,cl.lookup x=some c->X.env.cells.lookup x=some c)(nZ:∀x,(x,NameKind.free)∈scope.names->∃c,cl.lookup x=some c){pins:Ω}{σ:L2.St}{H:Hp}{s:Shared}(I:Inv X pins σ H s){r:Y2}{fr:Fr}{h:Hh}{d:D}{h':Hh}(sr:SR X.K m H r fr σ)(hr:HR X.K H r h)(e:Ev.ev (Ev.run G.F G.w n) (.comp elt t it cond) fr h=.ok d h')(post:Value->Addr->Result->Shared->Prop)(hpost:∀Dd C s' H' r',Inv X pins σ H' s'->(∃mm,s'.heap.Ns C mm)->gS X pins H' C->RV X.K H' r' d (.ref Dd)->HR X.K H' r' h'->Fm X.K r r' H H'->post (.ref Dd) C (.ok .next) s'){E:Φ}(hE:X.xe=λ_ _=>False):
  wpAny (model X.prog X.w) X.A (eval xi X.env) (λx s₁=>wpAny (model X.prog X.w) X.A (pyIter x) (λitv s₂=>wpAny (model X.prog X.w) X.A (newList []) (λacc s₃=>
   wpAny (model X.prog X.w) X.A (newFunctionEnv scope X.env.globals cl [] X.env.qual none .none (some X.env)) (λcenv s₄=>
    codeAny (model X.prog X.w) X.A (.compStart (.ListComp xe [⟨tg,xi,ifs,0⟩] scope pos) 0 itv acc { cenv with scope:=relabel scope X.env }) (post acc cenv.locals) s₄) E s₃) E s₂) E s₁) E s:=by
 rw[t6]at e;obtain⟨src,W,e1,e⟩:=Ev.ai e;split at e
 .rename_i hu;obtain⟨ds,h2,e2,e⟩:=Ev.ai e;have iR:∀{α:Type} {tt:Sem α} {Q:α->Shared->Prop} {s:Shared},wpAny (model X.prog X.w) X.A tt Q X.xe s->wpAny (model X.prog X.w) X.A tt Q E s:=λ{α tt Q s} hw=>ZT hw (λ_ _ q=>q) λ_ _ q=>by rw[hE]at q;exact q.elim
  refine bI (iR (hi X g pins s σ H (λJ H2=>∃i,HR X.K H2 i W/\Fm X.K r i H H2/\qx X.K i H2 src J) I ⟨r,fr,h,src,W,sr,hr,e1,λJ H2 i l f2 hJ=>⟨i,l,f2,hJ⟩⟩)) λv s1 q1=>?_;refine bI (iR q1) λitv s2 q2=>?_;obtain⟨ita,B,tn,J,H2,rfl,I2,Tn,M,f2,i,l,Ic,hJ⟩:=q2;refine aak ?_;generalize Ie:s2.heap.objs.size=Dd
  have L:H2 Dd=none:=by rw[<-Ie];exact I2.fresh
  have I3:Inv X pins σ (upd H2 Dd (.lst [])) { s2 with heap:=s2.heap.push { cls:=.type "list",data:=.seq ([]:W1).toArray }}:=by
   have:=I2.E9 (ys:=[]) (its:=[]) (t':=s2.toks) .nil (aas _);rw[Ie]at this;exact this
  have NG:∀b∈B,b<s2.heap.objs.size:=λb f=>by
   obtain⟨o,e,_⟩:=Tn.obj 0 _ M b f;exact ZI e
  generalize NH:({ s2 with heap:=s2.heap.push { cls:=.type "list",data:=.seq ([]:W1).toArray }}:Shared)=s3 at I3
  have V2:s3.heap.objs.size=s2.heap.objs.size+1:=by rw[<-NH];exact aco ..
  have k3:∀b o,s2.heap.get? b=some o->s3.heap.get? b=some o:=λb o e=>by rw[<-NH];exact ZD _ e
  have NI:∀b∈B,b<s3.heap.objs.size:=λb f=>Uv (NG b f) (by rw[V2];exact acO _);have Y:∀b∈B,gS X pins (upd H2 Dd (.lst [])) b:=λb f=>⟨by rw[aV (λz=>absurd (NG b f) (by rw[z,Ie];exact aat _))];exact(f2 b f).1,(f2 b f).2⟩
  refine wpAny_newFunctionEnv (hs.C9) (λy hy=>by simp at hy) (λNJ V3 V4=>?_) hs.kind;have k4:∀b o,s3.heap.get? b=some o->NJ.get? b=some o:=λb o e=>V4.extBut b o (ZR (ZI e)) (ZD _ e);have gC:Good G n (iZ sc scope) N' false (rK X N' scope cl s3.heap.objs.size s3 (upd H2 Dd (.lst [])) B):=g.comp;have I4:Inv (rK X N' scope cl s3.heap.objs.size s3 (upd H2 Dd (.lst [])) B) [] (sig scope N N' m' X.K (upd H2 Dd (.lst [])) i fr σ) (upd H2 Dd (.lst [])) { s3 with heap:=NJ,toks:=s3.toks+0 }:=
   FJ g I3 hs j3 nZ Y NI V3 k4
  have zF:SR X.K m' (upd H2 Dd (.lst [])) i fr (sig scope N N' m' X.K (upd H2 Dd (.lst [])) i fr σ):=NC (((sr.mono Ic).mono (Fm.tup L))) hn hu;have jj:HR X.K (upd H2 Dd (.lst [])) i W:=l.tup L;have TL:Dd∉i:=λhm=>by
   obtain⟨k,hk⟩:=acy hm;have hlt:k<W.length:=by rw[<-l.len];exact(gL hk).1
   obtain⟨a,e3,Z⟩:=l.ob k _ (Zy hlt);rw[hk]at e3;cases e3;cases P:W[k]with
   |lst dd=>rw[P]at Z;obtain⟨us,j,_⟩:=Z;rw[L]at j;exists j
   |bQ dd=>
    rw[P]at Z;obtain⟨us,j,_⟩:=Z;rcases j with ⟨ob,j⟩|⟨ob,_,_,j,_⟩
    .rw[L]at j;exists j
    .have:=ZI (I2.lT _ _ j);rw[Ie]at this;exact absurd this (aat _)
   |dct kvs=>rw[P]at Z;have j:=Z.1;rw[L]at j;exists j
  have W8:H Dd=none:=by
   cases z:H Dd with
   |none=>rfl
   |some o=>
    have hnr:Dd∉r:=λhm=>by
     obtain⟨k,hk⟩:=acy hm;exact TL (ZA (Ic.pre _ _ hk))
    have:=Ic.keep _ _ z hnr;rw[L]at this;exists this
  have mP:∀{Hc:Hp},(∀b∈B,Hc b=none)->∀b∈B,gS (rK X N' scope cl s3.heap.objs.size s3 (upd H2 Dd (.lst [])) B) [] Hc b:=λ{Hc} hz b f=>by
   refine⟨hz b f,ZR (NI b f),(I4.ok).qm b f,.inl f,λx c e=>((I4.ok).Cu b f).2 x c e,λp hp=>?_⟩;simp[rK]at hp
  have hsz:ds.length<=sizeLine:=by
   unfold Ev.alloc at e;split at e
   .rename_i z;rw[<-rF];exact z
   ·exists e
  have fin:codeAny (model X.prog X.w) X.A (.compLoop (.ListComp xe [⟨tg,xi,ifs,0⟩] scope pos) 0 (.ref ita) (.ref Dd) (compEnvC scope cl s3.heap.objs.size X.env)) (post (.ref Dd) s3.heap.objs.size) { s3 with heap:=NJ,toks:=s3.toks+0 }:=by
   refine De gC hg hc he Tn mP hu hJ L hsz (λs6 qa Hc rc vs I6 uZ xq qb xj Df=>?_) ⟨0,_,_,i,W,[],[],ds,I4,Tn.keep _ _ _ M λb f o P=>k4 b o (k3 b o P),λb f=>(Y b f).1,rfl,aas _,zF,jj,Fm.tup L,e8,TL,.nil,by rw[abI];exact e2,rfl⟩;unfold Ev.alloc at e;split at e
   .cases e;obtain⟨W9,V5,_⟩:=I6.loc;refine hpost Dd _ s6 Hc (rc++[Dd]) ?_ ⟨W9,V5⟩ ?_ ⟨Dd,rfl,?_⟩ (uZ.known qb xj Df) ((Ic.trans xq).known ?_)
    .exact I3.A2 (ch:=B) (I6.os) I6.base I6.hok I6.bare λb f=>⟨(Y b f).2.2.2.1,(Y b f).2.1,(Y b f).2.2.2.2.1,(Y b f).2.2.2.2.2⟩
    .exact I3.A3 (Zw _) I6.free
    .rw[<-uZ.len];simp
    .exact W8
   ·exists e
  subst NH;exact codeAny_compStart_list fin (Tn.self _ 0 _ _ _ (Tn.keep _ _ _ M λb f o P=>k4 b o (k3 b o P)) fin)
 ·exists e
end
section
variable{G:Tb}{n:Nat}{sc scope:Scope}{N N':Y1}{df:Bool}{m m':Ξ}{elt:E}{t:T}{it:Ev.It}{cond:Eo}{xe xi tg:Expr}{ifs:Kj}{pos:Pos}
theorem Good.cells{X:Cx}{pins:Ω}{σ:L2.St}{H:Hp}{s:Shared}(g:Good G n sc N df X)(I:Inv X pins σ H s)(z:nY sc scope):
  ∃cl,closureFor scope X.env=pure cl/\(∀x c,cl.lookup x=some c->X.env.cells.lookup x=some c)/\∀x,(x,NameKind.free)∈scope.names->∃c,cl.lookup x=some c:=
 Kf λx a=>I.ok.has x (by unfold Env.kindOf;rw[g.sc];exact(z.free x a).1)
def NK{X:Cx}{pins:Ω}{σ:L2.St}{H:Hp}{s:Shared}(I:Inv X pins σ H s){C:Addr}(fp:gS X pins H C){h':Heap}(z:Heap.SameBut C s.heap h'):Inv X pins σ H { s with heap:=h' }:=
 I.turned (t':=s.toks) (λb o a e=>z.extBut b o a e) fp.1 fp.2.1 fp.2.2.2.1 fp.2.2.2.2.1 fp.2.2.2.2.2
def Kh(hi:JI G n sc N df m it tg xi)(hg:JG G n (iZ sc scope) N' false m' t tg)(hc:JC G n (iZ sc scope) N' false m' cond ifs)(he:JE G n (iZ sc scope) N' false m' elt xe)(hn:namesOk sc N m scope t N' m')(Z:nY sc scope)(hf:∀(env:Env) x,foldedSetIterable xi env x=pure x:=by intro _ _;rfl):JE G n sc N df m (.comp elt t it cond) (.ListComp xe [⟨tg,xi,ifs,0⟩] scope pos):=λX g pins s σ H Q I q=>by
 obtain⟨r,F,h,d,J,i,j,e,q⟩:=q;obtain⟨cl,a,l,o⟩:=g.cells I Z;refine ab7 rfl (hf _) a Z.kind Z.loc ?_;refine Dh g hi hg hc he hn Z l o I i j e (λb C=>compPost (model X.prog X.w) X.A X.xe none (EP X pins σ Q) b C) (λDd C K H' p I' c y rv f Xa=>?_) g.xe;obtain⟨z,c⟩:=c;exact⟨z,c,λB Xb=>⟨.ref Dd,H',NK I' y Xb,rfl,q _ H' p rv f Xa⟩⟩
end
open PySem.SeqAt
structure zP(A:Around)(s:Shared)(u w:Value)(k:Bool):Prop where
 eq:EqAt A s u w k
 rc:RcAt A s u w k
 ne:RcNeAt A s u w (!k)
theorem t8:∀{x y:T1},x.length≠y.length->∀{k},Ev.cP f x y=some k->k=false
 |[],[],h,_,_=>absurd rfl h
 |[],_ :: _,_,_,e=>by cases e;rfl
 |_ :: _,[],_,_,e=>by cases e;rfl
 |a :: x,b :: y,h,k,e=>by
  simp only[Ev.cP,aaO,Zz]at e;obtain⟨p,_,q,c,d⟩:=e;have:=t8 (by simpa using h) c;subst this;cases d;simp
theorem zQ:∀{x y:T1}{k},Ev.cP f x y=some k->x.length=y.length->∃e:Nat->Bool,(∀(j:Nat) a b,x[j]?=some a->y[j]?=some b->f a b=some (e j))/\(List.range x.length).all e=k
 |[],[],_,h,_=>⟨λ_=>true,(λj a b c=>by simp at c),by cases h;simp⟩
 |[],_ :: _,_,_,h=>by simp at h
 |_ :: _,[],_,_,h=>by simp at h
 |a :: x,b :: y,k,h,hl=>by
  simp only[Ev.cP,aaO,Zz]at h;obtain⟨p,i,q,l,o⟩:=h
  exists o
  obtain⟨e,c,r⟩:=zQ l (by simpa using hl);refine⟨λj=>match j with|0=>p|j+1=>e j,λj z A d g=>?_,?_⟩
  .cases j with
   |zero=>simp at d g;subst d g;exact i
   |succ j=>exact c j z A (by simpa using d) (by simpa using g)
  .rw[ZH,abl,acB,List.all_map,<-r];rfl
theorem zR:∀{x y:T1}{k},Ev.cP f x y=some k->∃e:Nat->Bool,∀(j:Nat) a b,x[j]?=some a->y[j]?=some b->f a b=some (e j)
 |[],_,_,_=>⟨λ_=>true,λj a b c=>by simp at c⟩
 |_ :: _,[],_,_=>⟨λ_=>true,λj a b _ c=>by simp at c⟩
 |a :: x,b :: y,k,h=>by
  simp only[Ev.cP,aaO,Zz]at h;obtain⟨p,i,q,l,z⟩:=h;obtain⟨e,c⟩:=zR l;refine⟨λj=>match j with|0=>p|j+1=>e j,λj o r d g=>?_⟩;cases j with
  |zero=>simp at d g;subst d g;exact i
  |succ j=>exact c j o r (by simpa using d) (by simpa using g)
section
variable{X:Cx}{pins:Ω}{σ:L2.St}{H:Hp}{s:Shared}{r:Y2}{h:Hh}
def pq(I:Inv X pins σ H s)(h1:Bk X.K H a vs)(h2:H b=some (.lst z)):a≠b:=by
 rintro rfl;rcases h1 with ⟨o,h1⟩|⟨o,_,_,h1,_⟩
 .rw[h2]at h1;cases h1
 .have:=(I.bs a o (I.ok.mod.dF a o h1)).2;rw[h2]at this;exists this
def vj(Z:aT X.K H r x vs)(v2:aT X.K H r y ws)(p1:Vals vs us)(p2:Vals ws zs)(ih:∀a b va vb u w k,RV X.K H r a va->RV X.K H r b vb->RelV va u->RelV vb w->f a b=some k->zP A s u w k)(hl:x.length=y.length)(e:Ev.cP f x y=some k):
  ∃e':Nat->Bool,(∀j (h1:j<us.toArray.size) (h2:j<zs.toArray.size),EqAt A s us.toArray[j] zs.toArray[j] (e' j))/\(List.range us.toArray.size).all e'=k/\us.length=zs.length:=by
 obtain⟨e',h1,h2⟩:=zQ e hl;have I:=Z.length;have J:=v2.length;have L:=p1.length;have M:=p2.length;refine⟨e',λj N g=>?_,?_,by lia⟩
 .have Xc:j<zs.length:=by simpa using g
  have c:x[j]?=some x[j]:=Zy (by lia);have d:y[j]?=some y[j]:=Zy (by lia);obtain⟨va,i,l⟩:=Z.get c;obtain⟨vb,o,p⟩:=v2.get d;obtain⟨u,q,z⟩:=p1.get i;obtain⟨w,B,C⟩:=p2.get o;have F:us.toArray[j]=u:=by
   have:=(gL q).2;simpa using this
  have G:zs.toArray[j]=w:=by
   have:=(gL B).2;simpa using this
  rw[F,G];exact(ih _ _ _ _ _ _ _ l p z C (h1 j _ _ c d)).eq
 .rw[<-h2];have:us.toArray.size=x.length:=by simp;lia
  rw[this]
def cO(K:Ψ)(H:Hp)(r:Y2):D->V->Prop
 |.aU,v=>v=.aU
 |.bl b,v=>v=.bl b
 |.int i,v=>v=.int i
 |.str l,v=>v=.str (bF l)
 |.ref n,v=>∃a,v=.ref a/\r[n]?=some a
 |.tup ds,v=>∃a vs,v=.ref a/\dN K H a vs/\aT K H r ds vs
def RV.shape(h:RV X.K H r d v):cO X.K H r d v:=by
 cases d<;>simp only[RV]at h<;>simp only[cO]<;>first|exact h|exact h.1
def Kl:(bF a==bF b)=(a==b):=by
 by_cases e:a=b
 .subst e;simp
 .have c:=beq_eq_false_iff_ne.mpr λz=>e (zC z);have d:=beq_eq_false_iff_ne.mpr e;rw[c,d]
def qz(I:Inv X pins σ H s)(Z:A.units<cLine)(q1:fJ X.K H a vs)(q2:fJ X.K H b ws)(v1:aT X.K H r x vs)(v2:aT X.K H r y ws)(hab:a≠b)(ih:∀a b va vb u w k,RV X.K H r a va->RV X.K H r b vb->RelV va u->RelV vb w->Ev.jR h n a b=some k->zP A.in1 s u w k)(e:Ev.cP (Ev.jR h n) x y=some k):zP A s (.ref a) (.ref b) k:=by
 obtain⟨i,j,d,_⟩:=I.list q1;obtain⟨l,o,f,_⟩:=I.list q2;by_cases p:x.length=y.length
 .obtain⟨G,q,B,C⟩:=vj v1 v2 j o ih p e;have c:i.toArray.size=l.toArray.size:=by simpa using C
  have g:=RcAt.lists d.isList f.isList c Z q;have z:=RcNeAt.lists d.isList f.isList c Z q;rw[B]at g z;exact⟨.of_refs hab g,g,z⟩
 .have F:=t8 p e;subst F;have c:(i.toArray.size != l.toArray.size)=true:=by
   have J:=v1.length;have L:=v2.length;have M:=j.length;have N:=o.length;simp only[ZC,bne_iff_ne,ne_eq];lia
  exact⟨.of_refs hab (.lists_lengths d.isList f.isList c Z),.lists_lengths d.isList f.isList c Z,.lists_lengths d.isList f.isList c Z⟩
def Di(I:Inv X pins σ H s)(hr:HR X.K H r h)(e:Ev.bw h n=some ds)(z:r[n]?=some a):∃us:W1,PlainL s.heap a us.toArray:=by
 obtain⟨f,g,b,c,i⟩:=hr.read e;rw[z]at b;exists b;obtain⟨us,_,d,_⟩:=I.list c;exact⟨us,d⟩
def Dj(I:Inv X pins σ H s)(hr:HR X.K H r h):∀(n:Nat) (a b:D) (v:V) (k:Bool),RV X.K H r a v->RV X.K H r b v->Ev.jR h n a b=some k->k=true:=by
 intro n;induction n with
 |zero=>intro a b v k _ _ e;exists e
 |succ n Z=>
  have l:∀(x y:T1) (f:Ty) (k:Bool),aT X.K H r x f->aT X.K H r y f->Ev.cP (Ev.jR h n) x y=some k->k=true:=by
   intro x;induction x with
   |nil=>
    intro y f k j c e;subst j;cases y with
    |nil=>exists e;rfl
    |cons _ _=>obtain⟨_,_,c,_⟩:=c;exists c
   |cons d x Xd=>
    intro y f k j c e;obtain⟨v,w,rfl,J,h4⟩:=j;cases y with
    |nil=>exists c
    |cons d' y=>
     simp only[aT]at c;obtain⟨v',w',L,h5,h6⟩:=c;cases L;simp only[Ev.cP,aaO,Zz]at e;obtain⟨p,A,q,L,e3⟩:=e
     exists e3
     rw[Z d d' v p J h5 A,Xd y w q h4 h6 L];rfl
  have lt:∀(a:Addr) (f:Ty) (i:Nat) (ds:T1),dN X.K H a f->r[i]?=some a->Ev.bw h i=some ds->False:=λa f i ds j c J=>by
   obtain⟨us,pl⟩:=Di I hr J c;obtain⟨zs,_,pt,_⟩:=I.tuple j;exact ne_of_list_tuple pl.isList pt rfl
  intro a b v k j c e;have s1:=j.shape;have s2:=c.shape;clear j c;cases a with
  |aU=>simp only[cO]at s1;cases b with
   |aU=>exists e;rfl
   |ref m=>obtain⟨p,z,_⟩:=s2;rw[s1]at z;exists z
   |tup y=>obtain⟨p,_,z,_⟩:=s2;rw[s1]at z;exists z
   |_=>simp only[cO]at s2;rw[s1]at s2;exists s2
  |bl x=>simp only[cO]at s1;cases b with
   |bl y=>simp only[cO]at s2;rw[s1]at s2;exists s2;exists e;simp
   |ref m=>obtain⟨p,z,_⟩:=s2;rw[s1]at z;exists z
   |tup y=>obtain⟨p,_,z,_⟩:=s2;rw[s1]at z;exists z
   |_=>simp only[cO]at s2;rw[s1]at s2;exists s2
  |int x=>simp only[cO]at s1;cases b with
   |int y=>simp only[cO]at s2;rw[s1]at s2;exists s2;exists e;simp
   |ref m=>obtain⟨p,z,_⟩:=s2;rw[s1]at z;exists z
   |tup y=>obtain⟨p,_,z,_⟩:=s2;rw[s1]at z;exists z
   |_=>simp only[cO]at s2;rw[s1]at s2;exists s2
  |str x=>simp only[cO]at s1;cases b with
   |str y=>
    simp only[cO]at s2;rw[s1]at s2;have:x=y:=zC (by injection s2);subst this
    exists e;simp
   |ref m=>obtain⟨p,z,_⟩:=s2;rw[s1]at z;exists z
   |tup y=>obtain⟨p,_,z,_⟩:=s2;rw[s1]at z;exists z
   |_=>simp only[cO]at s2;rw[s1]at s2;exists s2
  |tup x=>
   obtain⟨p,f,rfl,z,w⟩:=s1;cases b with
   |tup y=>
    obtain⟨M,N,o,g,P⟩:=s2
    exists o
    rw[I.nH g z]at P;exact l x y f k w P e
   |ref m=>
    obtain⟨M,o,g⟩:=s2
    exists o
    obtain⟨ds,A,_⟩:=kA e;exact(lt _ _ _ _ z g A).elim
   |_=>exists s2
  |ref i=>
   obtain⟨p,rfl,z⟩:=s1;cases b with
   |ref m=>
    obtain⟨M,o,g⟩:=s2
    exists o
    replace e:Ev.kC h (Ev.jR h n) i m=some k:=e;unfold Ev.kC at e;split at e
    .simp only[Uw]at e;obtain⟨_,_,e⟩:=e;exact e.symm
    .rename_i Q;split at e
     .rename_i x y B C;exact absurd (hr.inj _ _ _ _ _ z g B C) Q
     .rename_i x y B C;obtain⟨p1,F,Ig,W,_⟩:=hr.ob _ _ B;obtain⟨p2,G,zK,Y,_⟩:=hr.ob _ _ C;rw[z]at F;exists F;rw[g]at G;exists G;exact absurd rfl (pq I W Y)
     .rename_i x y B C;obtain⟨p1,F,Ig,W,_⟩:=hr.ob _ _ B;obtain⟨p2,G,zK,Y,_⟩:=hr.ob _ _ C;rw[z]at F;exists F;rw[g]at G;exists G;exact absurd rfl (pq I Y W)
     ·exists e
   |tup y=>
    obtain⟨M,N,o,g,P⟩:=s2
    exists o
    obtain⟨ds,A,_⟩:=kA e;exact(lt _ _ _ _ g z A).elim
   |_=>exists s2
def Km(I:Inv X pins σ H s)(hr:HR X.K H r h)(hu:A.units<cLine)(q1:dN X.K H a vs)(q2:dN X.K H b ws)(v1:aT X.K H r x vs)(v2:aT X.K H r y ws)(ih:∀a b va vb u w k,RV X.K H r a va->RV X.K H r b vb->RelV va u->RelV vb w->Ev.jR h n a b=some k->zP A.in1 s u w k)(e:Ev.cP (Ev.jR h n) x y=some k):zP A s (.ref a) (.ref b) k:=by
 obtain⟨d,C,q,_⟩:=I.tuple q1;obtain⟨f,F,z,_⟩:=I.tuple q2;have l1:=v1.length;have l2:=v2.length;have l3:=C.length;have l4:=F.length;have c:RcAt A s (.ref a) (.ref b) k/\RcNeAt A s (.ref a) (.ref b) (!k):=by
  by_cases M:x.length=y.length
  .obtain⟨i,g,N,Q⟩:=vj v1 v2 C F ih M e;have l:=RcAt.tuples q z hu g;have o:=RcNeAt.tuples q z hu g;have G:d.toArray.size=f.toArray.size:=by simpa using Q
   have B:((List.range (min d.toArray.size f.toArray.size)).all i&&d.toArray.size==f.toArray.size)=k:=by
    rw[<-G,Nat.min_self,N];simp
   rw[B]at l o;exact⟨l,o⟩
  .have J:=t8 M e;subst J;have L:∃i:Nat->Bool,∀j (g:j<d.toArray.size) (N:j<f.toArray.size),EqAt A.in1 s d.toArray[j] f.toArray[j] (i j):=by
    obtain⟨i,g⟩:=zR e;refine⟨i,λj W Y=>?_⟩;have Zk:j<d.length:=by simpa using W
    have Xc:j<f.length:=by simpa using Y
    have P:x[j]?=some x[j]:=Zy (by lia);have B:y[j]?=some y[j]:=Zy (by lia);obtain⟨va,Z,a2⟩:=v1.get P;obtain⟨vb,b1,b2⟩:=v2.get B;obtain⟨u,a3,a4⟩:=C.get Z;obtain⟨w,b3,b4⟩:=F.get b1;have eu:d.toArray[j]=u:=by
     have:=(gL a3).2;simpa using this
    have ew:f.toArray[j]=w:=by
     have:=(gL b3).2;simpa using this
    rw[eu,ew];exact(ih _ _ _ _ _ _ _ a2 b2 a4 b4 (g j _ _ P B)).eq
   obtain⟨i,g⟩:=L;have l:=RcAt.tuples q z hu g;have o:=RcNeAt.tuples q z hu g;have G:(d.toArray.size==f.toArray.size)=false:=by
    simp only[ZC,beq_eq_false_iff_ne,ne_eq];lia
   rw[G,Bool.and_false]at l o;exact⟨l,o⟩
 by_cases p:a=b
 .subst p;rw[I.nH q2 q1]at v2;have J:k=true:=Dj I hr (n+1) (.tup x) (.tup y) (.ref a) k ⟨a,vs,rfl,q1,v1⟩ ⟨a,vs,rfl,q1,v2⟩ e;subst J;exact⟨.same _,c.1,c.2⟩
 .exact⟨.of_refs p c.1,c.1,c.2⟩
end
section
variable{X:Cx}{pins:Ω}{σ:L2.St}{H:Hp}{s:Shared}{r:Y2}{h:Hh}
def Ih(I:Inv X pins σ H s)(hr:HR X.K H r h):∀(n:Nat) (A:Around) (a b:D) (va vb:V) (u w:Value) (k:Bool),A.units+n<cLine->RV X.K H r a va->RV X.K H r b vb->RelV va u->RelV vb w->Ev.jR h n a b=some k->zP A s u w k:=by
 intro n;induction n with
 |zero=>intro A a b va vb u w k _ _ _ _ _ e;exists e
 |succ n ih=>
  intro A a b va vb u w k hu h1 h2 o f e;have c:A.units<cLine:=by lia
  have B:=λa b va vb u w k=>ih A.in1 a b va vb u w k (by lia);have s1:=h1.shape;have s2:=h2.shape;have lst:∀{i:Nat} {v:V} {u:Value} {ds:T1},cO X.K H r (.ref i) v->RelV v u->Ev.bw h i=some ds->∃p g,u=.ref p/\PlainL s.heap p (List.toArray g):=λ{i v u ds} hv ru el=>by
   obtain⟨p,rfl,z⟩:=hv;cases ru;obtain⟨g,d⟩:=Di I hr el z;exact⟨p,g,rfl,d⟩
  have tup:∀{ds:T1} {v:V} {u:Value},cO X.K H r (.tup ds) v->RelV v u->∃p g,u=.ref p/\s.heap.IsTuple p (List.toArray g):=λ{ds v u} hv ru=>by
   obtain⟨p,vs,rfl,z,_⟩:=hv;cases ru;obtain⟨g,_,pt,_⟩:=I.tuple z;exact⟨p,g,rfl,pt⟩
  cases a with
  |aU=>
   subst s1;cases o;cases b with
   |aU=>subst s2;cases f;exists e;exact⟨.same _,.none_none,.none_none⟩
   |bl y=>subst s2;cases f;exists e;exact⟨.none_bool _,.none_bool _,.none_bool _⟩
   |int y=>subst s2;obtain⟨t,rfl⟩:=f;exists e;exact⟨.none_int _ _,.none_int _ _,.none_int _ _⟩
   |str y=>subst s2;obtain⟨t,rfl⟩:=f;exists e;exact⟨.none_str _ _,.none_str _ _,.none_str _ _⟩
   |tup y=>obtain⟨p,g,rfl,pt⟩:=tup s2 f;exists e;exact⟨.none_tuple pt c,.none_tuple pt c,.none_tuple pt c⟩
   |ref m=>
    obtain⟨ds,l,rfl⟩:=kA e;obtain⟨p,g,rfl,d⟩:=lst s2 f l;exact⟨.none_list d.isList c,.none_list d.isList c,.none_list d.isList c⟩
  |bl x=>
   subst s1;cases o;cases b with
   |aU=>simp only[cO]at s2;subst s2;cases f;cases e;exact⟨.bool_none _,.bool_none _,.bool_none _⟩
   |bl y=>simp only[cO]at s2;subst s2;cases f;cases e;exact⟨.bool_bool _ _,.bool_bool _ _,.bool_bool _ _⟩
   |int y=>simp only[cO]at s2;subst s2;obtain⟨t,rfl⟩:=f;cases e;exact⟨.bool_int _ _ _,.bool_int _ _ _,.bool_int _ _ _⟩
   |str y=>simp only[cO]at s2;subst s2;obtain⟨t,rfl⟩:=f;cases e;exact⟨.bool_str _ _ _,.bool_str _ _ _,.bool_str _ _ _⟩
   |tup y=>obtain⟨p,g,rfl,pt⟩:=tup s2 f;cases e;exact⟨.bool_tuple _ pt c,.bool_tuple _ pt c,.bool_tuple _ pt c⟩
   |ref m=>
    obtain⟨ds,l,rfl⟩:=kA e;obtain⟨p,g,rfl,d⟩:=lst s2 f l;exact⟨.bool_list _ d.isList c,.bool_list _ d.isList c,.bool_list _ d.isList c⟩
  |int x=>
   simp only[cO]at s1;subst s1;obtain⟨t0,rfl⟩:=o;cases b with
   |aU=>simp only[cO]at s2;subst s2;cases f;cases e;exact⟨.int_none _ _,.int_none _ _,.int_none _ _⟩
   |bl y=>simp only[cO]at s2;subst s2;cases f;cases e;exact⟨.int_bool _ _ _,.int_bool _ _ _,.int_bool _ _ _⟩
   |int y=>simp only[cO]at s2;subst s2;obtain⟨t,rfl⟩:=f;cases e;exact⟨.int_int _ _ _ _,.int_int _ _ _ _,.int_int _ _ _ _⟩
   |str y=>simp only[cO]at s2;subst s2;obtain⟨t,rfl⟩:=f;cases e;exact⟨.int_str _ _ _ _,.int_str _ _ _ _,.int_str _ _ _ _⟩
   |tup y=>obtain⟨p,g,rfl,pt⟩:=tup s2 f;cases e;exact⟨.int_tuple _ _ pt c,.int_tuple _ _ pt c,.int_tuple _ _ pt c⟩
   |ref m=>
    obtain⟨ds,l,rfl⟩:=kA e;obtain⟨p,g,rfl,d⟩:=lst s2 f l;exact⟨.int_list _ _ d.isList c,.int_list _ _ d.isList c,.int_list _ _ d.isList c⟩
  |str x=>
   simp only[cO]at s1;subst s1;obtain⟨t0,rfl⟩:=o;cases b with
   |aU=>simp only[cO]at s2;subst s2;cases f;cases e;exact⟨.str_none _ _,.str_none _ _,.str_none _ _⟩
   |bl y=>simp only[cO]at s2;subst s2;cases f;cases e;exact⟨.str_bool _ _ _,.str_bool _ _ _,.str_bool _ _ _⟩
   |int y=>simp only[cO]at s2;subst s2;obtain⟨t,rfl⟩:=f;cases e;exact⟨.str_int _ _ _ _,.str_int _ _ _ _,.str_int _ _ _ _⟩
   |str y=>
    simp only[cO]at s2;subst s2;obtain⟨t,rfl⟩:=f;cases e;rw[<-Kl];exact⟨.str_str _ _ _ _,.str_str _ _ _ _,.str_str _ _ _ _⟩
   |tup y=>obtain⟨p,g,rfl,pt⟩:=tup s2 f;cases e;exact⟨.str_tuple _ _ pt c,.str_tuple _ _ pt c,.str_tuple _ _ pt c⟩
   |ref m=>
    obtain⟨ds,l,rfl⟩:=kA e;obtain⟨p,g,rfl,d⟩:=lst s2 f l;exact⟨.str_list _ _ d.isList c,.str_list _ _ d.isList c,.str_list _ _ d.isList c⟩
  |tup x=>
   cases b with
   |tup y=>
    obtain⟨p,vs,rfl,z,w1⟩:=s1;obtain⟨Z,vs',rfl,C,w2⟩:=s2;cases o;cases f;exact Km I hr c z C w1 w2 B e
   |aU=>obtain⟨p,g,rfl,pt⟩:=tup s1 o;simp only[cO]at s2;subst s2;cases f;cases e;exact⟨.tuple_none pt c,.tuple_none pt c,.tuple_none pt c⟩
   |bl y=>obtain⟨p,g,rfl,pt⟩:=tup s1 o;simp only[cO]at s2;subst s2;cases f;cases e;exact⟨.tuple_bool _ pt c,.tuple_bool _ pt c,.tuple_bool _ pt c⟩
   |int y=>obtain⟨p,g,rfl,pt⟩:=tup s1 o;simp only[cO]at s2;subst s2;obtain⟨t,rfl⟩:=f;cases e;exact⟨.tuple_int _ _ pt c,.tuple_int _ _ pt c,.tuple_int _ _ pt c⟩
   |str y=>obtain⟨p,g,rfl,pt⟩:=tup s1 o;simp only[cO]at s2;subst s2;obtain⟨t,rfl⟩:=f;cases e;exact⟨.tuple_str _ _ pt c,.tuple_str _ _ pt c,.tuple_str _ _ pt c⟩
   |ref m=>
    obtain⟨p,g,rfl,pt⟩:=tup s1 o;obtain⟨ds,l,rfl⟩:=kA e;obtain⟨Z,W,rfl,d⟩:=lst s2 f l;exact⟨.tuple_list pt d.isList c,.tuple_list pt d.isList c,.tuple_list pt d.isList c⟩
  |ref i=>
   cases b with
   |ref m=>
    replace e:Ev.kC h (Ev.jR h n) i m=some k:=e;unfold Ev.kC at e;split at e
    .rename_i Xe;subst Xe;simp only[Uw]at e;obtain⟨ds,l,rfl⟩:=e;obtain⟨p,g,rfl,d⟩:=lst s1 o l;obtain⟨p0,rfl,z⟩:=s1;obtain⟨p1,rfl,C⟩:=s2;rw[z]at C;cases C;cases o;cases f;have q:(List.range (List.toArray g).size).all (λ_=>true)=true:=by simp
     have rc:=RcAt.lists (A:=A) (e:=λ_=>true) d.isList d.isList rfl c λj _ _=>EqAt.same _;have ne:=RcNeAt.lists (A:=A) (e:=λ_=>true) d.isList d.isList rfl c λj _ _=>EqAt.same _;rw[q]at rc ne;exact⟨.same _,rc,ne⟩
    .rename_i Y;obtain⟨p0,rfl,z⟩:=s1;obtain⟨p1,rfl,C⟩:=s2;cases o;cases f;split at e
     .rename_i x y M N;obtain⟨q0,F,Ig,J,P⟩:=hr.ob _ _ M;obtain⟨q4,G,zK,L,Q⟩:=hr.ob _ _ N;rw[z]at F;cases F;rw[C]at G;cases G;exact qz I c (.of J) (.of L) P Q (λw=>Y (hr.inj _ _ _ _ _ z (by rw[w];exact C) M N)) B e
     .rename_i x y M N;obtain⟨q0,F,Ig,J,P⟩:=hr.ob _ _ M;obtain⟨q4,G,zK,L,Q⟩:=hr.ob _ _ N;rw[z]at F;cases F;rw[C]at G;cases G;exact qz I c (Ii J) (.of L) P Q (pq I J L) B e
     .rename_i x y M N;obtain⟨q0,F,Ig,J,P⟩:=hr.ob _ _ M;obtain⟨q4,G,zK,L,Q⟩:=hr.ob _ _ N;rw[z]at F;cases F;rw[C]at G;cases G;exact qz I c (.of J) (Ii L) P Q (pq I L J).symm B e
     .cases e
   |aU=>obtain⟨ds,l,rfl⟩:=kA e;obtain⟨p,g,rfl,d⟩:=lst s1 o l;simp only[cO]at s2;subst s2;cases f;exact⟨.list_none d.isList c,.list_none d.isList c,.list_none d.isList c⟩
   |bl y=>obtain⟨ds,l,rfl⟩:=kA e;obtain⟨p,g,rfl,d⟩:=lst s1 o l;simp only[cO]at s2;subst s2;cases f;exact⟨.list_bool _ d.isList c,.list_bool _ d.isList c,.list_bool _ d.isList c⟩
   |int y=>obtain⟨ds,l,rfl⟩:=kA e;obtain⟨p,g,rfl,d⟩:=lst s1 o l;simp only[cO]at s2;subst s2;obtain⟨t,rfl⟩:=f;exact⟨.list_int _ _ d.isList c,.list_int _ _ d.isList c,.list_int _ _ d.isList c⟩
   |str y=>obtain⟨ds,l,rfl⟩:=kA e;obtain⟨p,g,rfl,d⟩:=lst s1 o l;simp only[cO]at s2;subst s2;obtain⟨t,rfl⟩:=f;exact⟨.list_str _ _ d.isList c,.list_str _ _ d.isList c,.list_str _ _ d.isList c⟩
   |tup y=>
    obtain⟨ds,l,rfl⟩:=kA e;obtain⟨p,g,rfl,d⟩:=lst s1 o l;obtain⟨Z,W,rfl,pt⟩:=tup s2 f;exact⟨.list_tuple d.isList pt c,.list_tuple d.isList pt c,.list_tuple d.isList pt c⟩
where
 Ii {K:Ψ} {H:Hp} {a:Addr} {vs:Ty} (q:Bk K H a vs):fJ K H a vs:=by
  rcases q with ⟨ob,e2⟩|e2
  .exact .inl (.inr ⟨ob,e2⟩)
  .exact .inr e2
end
theorem Good.units{sc:Scope}(g:Good G n sc N df X):X.A.units+1+Ev.deep<cLine:=by
 have:=g.room.un;have:Ev.deep=20:=rfl;lia
section
variable{G:Tb}{n:Nat}{sc:Scope}{N:Y1}{df:Bool}{X:Cx}
def zS{pins:Ω}{σ:L2.St}{H:Hp}{s:Shared}{Q:VK}{r:Y2}{h:Hh}{k:Bool}(I:Inv X pins σ H s)(hr:HR X.K H r h)(q:Res X.K r H h (.bl k) Q):EP X pins σ Q (.bool k) s:=
 ⟨.bl k,H,I,rfl,q.here rfl hr⟩
def Ij(g:Good G n sc N df X):dJ X (compareOp .Eq) (iY X.K (ju .eq)):=by
 intro c s σ H x y v u Q I rx ry q;obtain⟨r,h,a,b,d,o,f,i,j,e,q⟩:=q;obtain⟨k,l,rfl,rfl⟩:=kj e;have:=g.units;exact(Ih I f Ev.deep X.A a b x y v u k (by lia) i j rx ry l).rc _ _ _ _ (zS I f q)
def Ik(g:Good G n sc N df X):dJ X (compareOp .NotEq) (iY X.K (ju .ne)):=by
 intro f s σ H x y v u Q I rx ry q;obtain⟨r,h,a,b,d,z,i,j,l,e,q⟩:=q;obtain⟨k,c,rfl,rfl⟩:=kj e;have:=g.units
 delta Ev.cop at c;dsimp only at c;simp only[Uw]at c
 obtain⟨o,p,rfl⟩:=c;exact(Ih I i Ev.deep X.A a b x y v u o (by lia) j l rx ry p).ne _ _ _ _ (zS I i q)
def Dk{p:Int->Int->Bool}(Z:dJ X (compareOp op) (wA λi j=>.bl (p i j)))(hc:∀a b h k,Ev.cop o a b h=some k->∃i j,a=.int i/\b=.int j/\k=p i j):dJ X (compareOp op) (iY X.K (ju o)):=by
 intro c s σ H x y v u Q I rx ry q;obtain⟨r,h,a,b,d,A,f,g,l,e,q⟩:=q;obtain⟨k,z,rfl,rfl⟩:=kj e;obtain⟨i,j,rfl,rfl,rfl⟩:=hc _ _ _ _ z;exact Z c s σ H x y v u Q I rx ry ⟨i,j,g,l,q.here rfl f⟩
def RW:dJ X (compareOp .Lt) (iY X.K (ju .lt)):=Dk Rp λa b h k e=>by
 cases a<;>cases b <;> (delta Ev.cop at e;dsimp only at e)<;>first | (exists e;exact⟨_,_,rfl,rfl,rfl⟩) | exists e
def Il:dJ X (compareOp .Gt) (iY X.K (ju .gt)):=Dk Rq λa b h k e=>by
 cases a<;>cases b <;> (delta Ev.cop at e;dsimp only at e)<;>first | (exists e;exact⟨_,_,rfl,rfl,rfl⟩) | exists e
def NL:dJ X (compareOp .Is) (iY X.K (ju .uT)):=by
 intro g s σ H x y v u Q I rx ry q;obtain⟨r,h,a,b,d,l,f,i,j,e,q⟩:=q;obtain⟨k,c,rfl,rfl⟩:=kj e;cases b with
 |aU=>
  refine Mr g s σ H x y v u Q I rx ry ⟨j,?_⟩;have:=i.shape;cases a with
  |aU=>simp only[cO]at this;subst this;exists c;exact q.here rfl f
  |bl _=>simp only[cO]at this;subst this;exists c;exact q.here rfl f
  |int _=>simp only[cO]at this;subst this;exists c;exact q.here rfl f
  |str _=>simp only[cO]at this;subst this;exists c;exact q.here rfl f
  |ref _=>obtain⟨p,rfl,_⟩:=this;exists c;exact q.here rfl f
  |tup _=>obtain⟨p,_,rfl,_⟩:=this;exists c;exact q.here rfl f
 |_=>cases a <;> exists c
def zT:dJ X (compareOp .IsNot) (iY X.K (ju .mR)):=by
 intro g s σ H x y v u Q I rx ry q;obtain⟨r,h,a,b,d,l,f,i,j,e,q⟩:=q;obtain⟨k,c,rfl,rfl⟩:=kj e;cases b with
 |aU=>
  refine Jx g s σ H x y v u Q I rx ry ⟨j,?_⟩;have:=i.shape;cases a with
  |aU=>simp only[cO]at this;subst this;exists c;exact q.here rfl f
  |bl _=>simp only[cO]at this;subst this;exists c;exact q.here rfl f
  |int _=>simp only[cO]at this;subst this;exists c;exact q.here rfl f
  |str _=>simp only[cO]at this;subst this;exists c;exact q.here rfl f
  |ref _=>obtain⟨p,rfl,_⟩:=this;exists c;exact q.here rfl f
  |tup _=>obtain⟨p,_,rfl,_⟩:=this;exists c;exact q.here rfl f
 |_=>cases a <;> exists c
end
section
variable{n:Nat}{X:Cx}
def t9(a b:Ξ):bF a++bF b=bF (a++b):=by
 show Str.append (bF a) (bF b)=_;simp[Str.append,bF]
def Kn{pins:Ω}{σ:L2.St}{H:Hp}{s:Shared}{Q:Φ}{E:Φ}(I:Inv X pins σ H s){a b:Addr}{Z:Ty}(h1:dN X.K H a [])(h2:dN X.K H b Z)(q:Q (.ref b) s):wpAny (model X.prog X.w) X.A (binaryOp .Add (.ref a) (.ref b)) Q E s:=by
 obtain⟨z,p,Xf,_⟩:=I.tuple h1;obtain⟨B,C,Xg,_⟩:=I.tuple h2;cases p;obtain⟨⟨r,dd,i,y⟩,j,l,n,o⟩:=id Xf;obtain⟨⟨VJ,f,g,h⟩,c,d,n2,e⟩:=id Xg;simp only at l o d e;subst l o d e;exact concat_meets ⟨_,j,rfl⟩ ⟨_,c,rfl⟩ ab4 seq_tuple_add abk abe (abc _ _)
  (tuple_addW0 a b _ _ n n2 dd f y h (by simp)) ⟨j,c,q⟩
def NN:dJ X (binaryOp .Add) (iY X.K (Ev.bX .add)):=by
 intro c s σ H x y v u Q I rx ry q;obtain⟨r,h,a,b,d,h',f,P,W,e,q⟩:=q;have s1:=P.shape;have s2:=W.shape;cases a with
 |int i=>cases b with
  |int j=>cases e;exact Ml c s σ H x y v u Q I rx ry ⟨i,j,s1,s2,q.here rfl f⟩
  |_=>exists e
 |str i=>cases b with
  |str j=>
   delta Ev.bX at e;dsimp only at e
   split at e
   .rename_i hz;cases e;refine A8 c s σ H x y v u Q I rx ry ⟨bF i,bF j,s1,s2,by exact hz,?_⟩;rw[t9];exact q.here ⟨rfl,by rw[Zx];exact hz⟩ f
   ·exists e
  |_=>exists e
 |tup i=>cases b with
  |tup j=>
   delta Ev.bX at e;dsimp only at e
   split at e
   .rename_i hz
    exists e
    obtain⟨A,g,rfl,l,C⟩:=s1;obtain⟨o,B,rfl,z,F⟩:=s2;have G:=C.length;have J:=F.length;cases g with
    |nil=>
     cases rx;cases ry;refine Kn I l z ⟨.ref o,H,I,rfl,q.here ?_ f⟩;have:i=[]:=by cases i with|nil=>rfl|cons _ _=>simp at G
     subst this;exact⟨o,B,rfl,z,by simpa using F⟩
    |cons L g=>
     refine JK c s σ H _ _ v u Q I rx ry ⟨A,o,L :: g,B,rfl,rfl,l,z,by simp,by rw[G,J];exact hz,λM=>?_,λM p Y=>?_⟩
     .subst M;have:j=[]:=by cases j with|nil=>rfl|cons _ _=>simp at J
      subst this;exact q.here ⟨A,L :: g,rfl,l,by simpa using C⟩ f
     .exact q.tup (C.append F) f Y
   ·exists e
  |_=>exists e
 |ref i=>cases b with
  |ref j=>
   delta Ev.bX at e;dsimp only at e
   split at e
   .rename_i ds es Z e2;obtain⟨A,rfl,l⟩:=s1;obtain⟨o,rfl,z⟩:=s2;cases rx;cases ry;obtain⟨p1,N,g,g2,g3⟩:=f.ob _ _ Z;obtain⟨p2,k1,B,k2,k3⟩:=f.ob _ _ e2;rw[l]at N;cases N;rw[z]at k1;cases k1;obtain⟨hz,q2⟩:=q.lst e (g3.append k3) f;exact MH c s σ H (.ref A) (.ref o) _ _ Q I rfl rfl ⟨_,_,g,B,rfl,rfl,g2,k2,by rw[Zx]at hz;exact hz,q2⟩
   .cases e
  |_=>cases e
 |_=>cases b<;>cases e
def NO:dJ X (binaryOp .Sub) (iY X.K (Ev.bX .sub)):=by
 intro c s σ H x y v u Q I rx ry q;obtain⟨r,h,a,b,d,o,f,g,l,e,q⟩:=q;cases a with
 |int i=>cases b with
  |int j=>cases e;exact Mm c s σ H x y v u Q I rx ry ⟨i,j,g,l,q.here rfl f⟩
  |_=>exists e
 |_=>cases b <;> exists e
def Ko:dJ X (binaryOp .FloorDiv) (iY X.K (Ev.bX .fdiv)):=by
 intro c s σ H x y v u Q I rx ry q;obtain⟨r,h,a,b,d,o,f,g,l,e,q⟩:=q;cases a with
 |int i=>cases b with
  |int j=>
   delta Ev.bX at e;dsimp only at e
   split at e
   .rename_i hz;cases e;exact Jw c s σ H x y v u Q I rx ry ⟨i,j,g,l,hz,q.here rfl f⟩
   ·exists e
  |_=>exists e
 |_=>cases b <;> exists e
def NP:dJ X (binaryOp .Mod) (iY X.K (Ev.bX .mod)):=by
 intro c s σ H x y v u Q I rx ry q;obtain⟨r,h,a,b,d,o,f,g,l,e,q⟩:=q;cases a with
 |int i=>cases b with
  |int j=>
   delta Ev.bX at e;dsimp only at e
   split at e
   .rename_i hz;cases e;exact Mp c s σ H x y v u Q I rx ry ⟨i,j,g,l,hz,q.here rfl f⟩
   ·exists e
  |_=>exists e
 |_=>cases b <;> exists e
end
section
variable{X:Cx}
def NQ(n:Nat)(i:Int):Ev.dU n i=L2.dU n i:=rfl
def NR{α:Type}(xs:List α)(i:Int):Ev.bM xs i=L2.bM xs i:=rfl
theorem aT.bM{K:Ψ}(w:aT K H r ds vs)(e:Ev.bM ds i=some d):∃v,L2.bM vs i=some v/\RV K H r d v:=by
 obtain⟨j,a,b⟩:=Option.bind_eq_some_iff.mp e;obtain⟨v,c,f⟩:=w.get b;exact⟨v,by unfold L2.bM;rw[w.length,<-NQ,a];exact c,f⟩
def RX:zy X (iY X.K Nc):=by
 intro f g j s σ H x y v u Q I rx ry q hs;obtain⟨r,h,a,b,d,Y,o,A,M,e,q⟩:=q;obtain⟨e,rfl⟩:=Ev.aJ e;cases b with
 |int i=>
  have s2:=M.shape;cases a with
  |tup ds=>
   obtain⟨p,B,rfl,z,w⟩:=A.shape;obtain⟨C,F,G⟩:=w.bM e;exact MB f g j s σ H _ y v u Q I rx ry ⟨p,B,i,C,rfl,s2,z,F,q.here G o⟩ hs
  |str l=>
   obtain⟨rfl,N⟩:=A
   delta Ev.eK at e;simp only[Uw]at e
   obtain⟨c,J,rfl⟩:=e;exact MC f g j s σ H _ y v u Q I rx ry ⟨bF l,i,c,rfl,s2,by exact N,by simpa[bF,NR]using J,q.here ⟨rfl,by show 1<=sizeLine;decide⟩ o⟩ hs
  |ref m=>
   delta Ev.eK at e;simp only[Zz]at e
   obtain⟨ds,J,P⟩:=e;obtain⟨p,rfl,z⟩:=A.shape;obtain⟨Z,B,L,W,w⟩:=o.read J;rw[z]at L;cases L;obtain⟨C,F,G⟩:=w.bM P;exact JM f g j s σ H _ y v u Q I rx ry ⟨p,B,i,C,rfl,s2,W,F,q.here G o⟩ hs
  |_=>exists e
 |_=>cases a <;> exists e
theorem aT.cut{K:Ψ}(w:aT K H r ds vs)(lo hi:Option Int):aT K H r (Ev.cut ds lo hi) (tP vs lo hi):=by
 unfold Ev.cut tP;rw[w.length];exact(w.drop _).take _
def vm{α:Type}(xs:List α)(lo hi:Option Int)(h:Ev.aS xs.length 0 lo=0/\Ev.aS xs.length xs.length hi=xs.length):Ev.cut xs lo hi=xs:=by
 unfold Ev.cut;rw[h.1,h.2];simp
def Kp{α:Type}(xs:List α)(lo hi:Option Int):(Ev.cut xs lo hi).length<=xs.length:=by
 unfold Ev.cut;rw[Z9,Z4];lia
def vN{E:Φ}{lo hi:Option Int}(z:IsTup s.heap t items)(I:s.heap.IsSliceOf sl vl vu .none)(pl:IsPart vl lo)(pu:IsPart vu hi)(Z:HT.aS items.size 0 lo=0/\HT.aS items.size items.size hi=items.size)(h:Q (.ref t) s):wpAny (model prog w) A (getItem (.ref t) (.ref sl)) Q E s:=by
 obtain⟨d,b,c,e⟩:=id I;have Mz:s.TypeIs (.ref sl) "slice" :=⟨d,b,c⟩
 unfold getItem;try with_reducible refine aan ?_
 first|refine gH (Ws ?_)|skip
 refine gH (wpAny_sequenceKey z.typeIs (by decide) ?_);refine gH (aaQ (name:=Str.ofString "__getitem__") z.typeIs aar
  (aax aar z.typeIs entry_tuple_getitem ?_ (args_tuple_getitem _ _)))
 show wpAny _ _ (Builtin.Tuple.tupleItemsOf (.ref t) >>= _) _ _ s;refine gH (tupleItemsOf_ z ?_);refine gH (ab0 Mz ?_);refine gH (HT.ku I pl pu ?_);have a:(((HT.aS items.size 0 lo:Nat):Int)==0&&(1:Int)==1&&(HT.aS items.size items.size hi - HT.aS items.size 0 lo)==items.size)=true:=by
  rw[Z.1,Z.2];simp
 show wpAny _ _ (if (((HT.aS items.size 0 lo:Nat):Int)==0&&(1:Int)==1&&(HT.aS items.size items.size hi - HT.aS items.size 0 lo)==items.size)=true then _ else _) _ _ s;rw[gV a];refine gH (m:=Builtin.Tuple.tupleIsExact (.ref t)) (gH (ab0 z.typeIs (Ws ?_)));show wpAny _ _ (if ((Value.type "tuple" ==Value.type "tuple")=true)then _ else _) _ _ s;rw[gV (by decide)];exact gH (abV (gH (Ws (Ws ⟨_,rfl,Ws h⟩))))
def Dl(lo hi:Option Int)(n:Nat):Builtin.Str.strSliceIndices lo hi 1 n=(List.range (Ev.aS n n hi - Ev.aS n 0 lo)).map (λk=>Ev.aS n 0 lo+k):=by
 have NS:∀o:Option Int,((match o with|none=>0|some i=>max 0 (min (if i<0 then i+n else i) n)))=((Ev.aS n 0 o):Int):=λo=>by
  cases o with
  |none=>rfl
  |some i=>simp only[Ev.aS];split<;>lia
 have NT:∀o:Option Int,((match o with|none=>n|some i=>max 0 (min (if i<0 then i+n else i) n)))=((Ev.aS n n o):Int):=λo=>by
  cases o with
  |none=>rfl
  |some i=>simp only[Ev.aS];split<;>lia
 have e:Builtin.Str.strSliceIndices lo hi 1 n=sliceRange (match lo with|none=>0|some i=>max 0 (min (if i<0 then i+n else i) n)) (match hi with|none=>n|some i=>max 0 (min (if i<0 then i+(n:Int)else i) (n:Int))) 1:=by
  unfold Builtin.Str.strSliceIndices;cases lo<;>cases hi<;>simp
 rw[e,NS,NT,sliceRange_one]
def NU(l:Ξ)(lo hi:Option Int):((Builtin.Str.strSliceIndices lo hi 1 (bF l).length).filterMap ((bF l).cps[·]?)).toArray=(Ev.cut l lo hi).toArray:=by
 rw[gK,Dl,pick_run];simp[bF,Ev.cut]
def NV:nj X (MU X.K):=by
 intro b s σ H x v vl vu lo hi sl Q I rx hs pl pu q;obtain⟨r,h,a,d,h',y,C,e,q⟩:=q;cases a with
 |tup ds=>
  exists e
  obtain⟨p,c,rfl,z,w⟩:=C.shape;by_cases G:HT.aS c.length 0 lo=0/\HT.aS c.length c.length hi=c.length
  .cases rx;obtain⟨us,pv,pt,hz⟩:=I.tuple z;have Y:=pv.length;have Xh:Ev.aS ds.length 0 lo=0/\Ev.aS ds.length ds.length hi=ds.length:=by rw[<-w.length];exact G
   refine⟨"tuple",_,PyProof.Rows.slot_tuple_getitem.lookup,pt.typeIs,?_⟩;refine vN pt hs pl pu (by rw[ZC,<-Y];exact G) ⟨.ref p,H,I,rfl,q.here ?_ y⟩;rw[vm ds lo hi Xh];exact⟨p,c,rfl,z,w⟩
  .exact MA b s σ H _ v vl vu lo hi sl Q I rx hs pl pu ⟨p,c,rfl,z,G,λp' J=>q.tup (w.cut lo hi) y J⟩
 |str l=>
  obtain⟨rfl,Y⟩:=C;obtain⟨t,rfl⟩:=rx
  exists e
  refine⟨"str",_,PySem.F.slot_str_getitem.lookup,typeIs_str s _ t,?_⟩;have f:∀{v:Value} {o:Option Int},IsPart v o->∃p:Option (Int×Tok),v=partValue p/\p.map (·.1)=o:=λ{v o} J=>by
   cases J with
   |none=>exact⟨none,rfl,rfl⟩
   |int i t=>exact⟨some (i,t),rfl,rfl⟩
  obtain⟨g,L,Z⟩:=f pl;obtain⟨j,e3,e4⟩:=f pu;subst L e3;obtain⟨os,M,N,P⟩:=hs;refine wpAny_getItem_str_slice (st:=none) ⟨os,M,N,P⟩ rfl ?_;have Im:((slicePicked (bF l) g j none).filterMap ((bF l).cps[·]?)).toArray=(Ev.cut l lo hi).toArray:=by
   show((Builtin.Str.strSliceIndices (g.map (·.1)) (j.map (·.1)) 1 (bF l).length).filterMap ((bF l).cps[·]?)).toArray=_;rw[Z,e4];exact NU l lo hi
  have hcl:=Kp l lo hi;refine post_val_or_made (λ_=>?_) λt' k=>?_
  .rw[Im];show(Ev.cut l lo hi).toArray.size<=sizeLine;simp only[ZC];lia
  .have A:(if (((none:Option (Int×Tok)).map (·.1)).getD 1==1&&(slicePicked (bF l) g j none).length==(bF l).length)=true then bF l else (⟨((slicePicked (bF l) g j none).filterMap ((bF l).cps[·]?)).toArray⟩:Str))=bF (Ev.cut l lo hi):=by
    split
    .rename_i hc;rw[yK]at hc;have B:(slicePicked (bF l) g j none).length=(bF l).length:=eq_of_beq hc.2;have W:(slicePicked (bF l) g j none).length=Ev.aS l.length l.length hi - Ev.aS l.length 0 lo:=by
      show(Builtin.Str.strSliceIndices (g.map (·.1)) (j.map (·.1)) 1 (bF l).length).length=_;rw[Z,e4,Dl,gK];simp
     rw[gK]at B;have hb:Ev.aS l.length l.length hi<=l.length:=HT.CJ _ _ (Zw _) hi;have ha:Ev.aS l.length 0 lo<=l.length:=HT.CJ _ _ (aas _) lo;rw[vm l lo hi ⟨by lia,by lia⟩]
    .rw[Im];rfl
   rw[A];exact⟨.str (bF (Ev.cut l lo hi)),H,I.tok _,⟨_,rfl⟩,q.here ⟨rfl,by lia⟩ y⟩
 |ref m=>
  simp only[Ev.ji]at e;split at e
  .rename_i ds L;obtain⟨p,rfl,z⟩:=C.shape;obtain⟨p',c,z',q1,w⟩:=y.read L;rw[z]at z';cases z';obtain⟨hz,q2⟩:=q.lst e (w.cut lo hi) y;exact JN b s σ H _ v vl vu lo hi sl Q I rx hs pl pu ⟨p,c,rfl,q1,q2⟩
  ·exists e
 |_=>exists e
theorem xr:∀(k:Nat) (l:Ξ) (z:Ξ),(List.replicate k l.toArray).foldl (·++·) z.toArray=(z++Ev.rep k l).toArray
 |0,l,z=>by simp[Ev.rep]
 |k+1,l,z=>by
  rw[ZE,aae];have:z.toArray++l.toArray=(z++l).toArray:=by simp
  rw[this,xr k l (z++l)];simp[Ev.rep,ZE]
def pC{α:Type}(k:Nat)(l:List α):(Ev.rep k l).length=k*l.length:=by
 exact len_rep l k
def Kq(h:0<=k):Txt.mul (bF l) k=bF (Ev.rep k.toNat l):=by
 unfold Txt.mul;by_cases b:k<1
 .have:k=0:=by lia
  subst this;rfl
 .rw[Yl b];split
  .rename_i a;rw[aaf]at a;rcases a with a|a
   .have:k=1:=by simpa using a
    subst this;simp[Ev.rep]
   .rw[gK]at a;have:l=[]:=by cases l with|nil=>rfl|cons _ _=>simp at a
    subst this;simp[Ev.rep,bF]
  .have:=xr k.toNat l [];exact ZJ Str.mk this
def kT(h1:a<=1000)(h2:b<=1000):a*b<=sizeLine:=ZL (Nat.mul_le_mul h1 h2) (by decide)
def Kr{pins:Ω}{σ:L2.St}{H:Hp}{s:Shared}{Q:VK}(I:Inv X pins σ H s){l:Ξ}{k:Int}{t u:Tok}(z:0<=k/\k<=1000/\l.length<=1000)(q:Q (.str (bF (Ev.rep k.toNat l))) H):
  wpAny (model X.prog X.w) X.A (binaryOp .Mult (.str (bF l) t) (.int k u)) (EP X pins σ Q) X.xe s:=by
 have a:MulOk (bF l) k:=mulOk_of 1000 1000 (by rw[gK];exact z.2.2) (by exact z.2.1) (by lia) (by decide) (by decide);refine SB.mul a λb c=>?_;rw[Kq z.1];exact⟨.str _,H,I.tok _,⟨_,rfl⟩,q⟩
def qA:fillsNumberSlot (.type "tuple") "mul" = pure false:=
 PySem.fillsNumberSlot_seq PySem.F.slot_tuple_mul.lookup (by decide) PySem.F.slot_tuple_rmul.lookup (by decide)
def xu:seqRepeat? (.type "tuple")=pure (some (.builtin "tuple.__mul__")):=by
 rfl
def Bu(a:Int)(t:Tok)(l:Addr)(z:Array Value)(n:Nat)(dd:Option Addr)(sl:Array (Option Value)):
  Meets (Builtin.«int.__rmul__» ⟨[.int a t,.ref l],[]⟩) (λ_ R s=>s.heap.get? l=some { cls:=.type "tuple",dict:=dd,data:=.seq z n,slots:=sl }/\R (.ok (.ret Value.notImplemented)) s):=
 .of_wp λprog w A R s h=>by obtain⟨b,g,d,tk,c⟩:=s;obtain⟨e,h⟩:=h;wp_walk;exact⟨_,rfl,h⟩
def Bv(l:Addr)(z:Array Value)(n:Nat)(dd:Option Addr)(sl:Array (Option Value))(k:Int)(u:Tok)(h1:¬ (decide (k < -2 ^ 63) ||decide (k≥2 ^ 63))=true)(I:(z.isEmpty ||k==1)=true):
  Meets (Builtin.«tuple.__mul__» ⟨[.ref l,.int k u],[]⟩) (λ_ R s=>s.heap.get? l=some { cls:=.type "tuple",dict:=dd,data:=.seq z n,slots:=sl }/\R (.ok (.ret (.ref l))) s):=
 .of_wp λprog w A R s h=>by obtain⟨b,g,d,tk,c⟩:=s;obtain⟨a,h⟩:=h;have f1:=ab6;wp_walk using aab a;rw[Yl h1];wp_walk using aab a;exact⟨_,rfl,h⟩
def Bw(l:Addr)(z:Array Value)(n:Nat)(dd:Option Addr)(sl:Array (Option Value))(k:Int)(u:Tok)(h1:¬ (decide (k < -2 ^ 63) ||decide (k≥2 ^ 63))=true)(I:¬ (z.isEmpty ||k==1)=true)(Z:(decide (k<=0) ||z.isEmpty)=true):
  Meets (Builtin.«tuple.__mul__» ⟨[.ref l,.int k u],[]⟩) (λ_ R s=>s.heap.get? l=some { cls:=.type "tuple",dict:=dd,data:=.seq z n,slots:=sl }/\R (.ok (.ret (Value.ref s.heap.objs.size))) { s with heap:=s.heap.push { cls:=Value.type "tuple",data:=Data.seq #[]},toks:=s.toks }):=
 .of_wp λprog w A R s h=>by obtain⟨b,g,d,tk,c⟩:=s;obtain⟨a,h⟩:=h;have f1:=ab6;wp_walk using aab a;rw[Yl h1];wp_walk using aab a;exact⟨_,rfl,h⟩
def Bx(l:Addr)(z:Array Value)(n:Nat)(dd:Option Addr)(sl:Array (Option Value))(k:Int)(u:Tok)(h1:¬ (decide (k < -2 ^ 63) ||decide (k≥2 ^ 63))=true)(h3:¬ (z.isEmpty ||k==1)=true)(h4:¬ (decide (k<=0) ||z.isEmpty)=true)(I:¬ (z.size*k > (2 ^ 63 - 1) / 8))(h6:¬ Builtin.Tuple.tupleTooMany (z.size*k)=true)(Z:(List.foldl (λx1 x2=>x1++x2) #[] (List.replicate k.toNat z)).size<=sizeLine):
  Meets (Builtin.«tuple.__mul__» ⟨[.ref l,.int k u],[]⟩) (λ_ R s=>s.heap.get? l=some { cls:=.type "tuple",dict:=dd,data:=.seq z n,slots:=sl }/\R (.ok (.ret (Value.ref s.heap.objs.size))) { s with heap:=s.heap.push { cls:=Value.type "tuple",data:=Data.seq (List.foldl (λx1 x2=>x1++x2) #[] (List.replicate k.toNat z))},toks:=s.toks }):=
 .of_wp λprog w A R s h=>by obtain⟨b,g,d,tk,c⟩:=s;obtain⟨a,h⟩:=h;have f1:=ab6;wp_walk using aab a;rw[Yl h1];wp_walk using aab a;rw[Yl I];wp_walk using aab a;exact⟨_,rfl,h⟩
theorem vn:∀(k:Nat) (l z:W1),(List.replicate k l.toArray).foldl (·++·) z.toArray=(z++Ev.rep k l).toArray
 |0,l,z=>by simp[Ev.rep]
 |k+1,l,z=>by
  rw[ZE,aae];have:z.toArray++l.toArray=(z++l).toArray:=by simp
  rw[this,vn k l (z++l)];simp[Ev.rep,ZE]
def Ks{pins:Ω}{σ:L2.St}{H:Hp}{s:Shared}{Q:VK}(I:Inv X pins σ H s){p:Addr}{vs:Ty}{k:Int}{u:Tok}(Z:0<=k/\k<=1000/\vs.length<=1000)(hp:dN X.K H p vs)(q1:Ev.rep k.toNat vs=vs->Q (.ref p) H)(q2:∀p',H p'=none->Q (.ref p') (upd H p' (.tup (Ev.rep k.toNat vs)))):
  wpAny (model X.prog X.w) X.A (binaryOp .Mult (.ref p) (.int k u)) (EP X pins σ Q) X.xe s:=by
 obtain⟨a,pv,pt,hz⟩:=I.tuple hp;obtain⟨⟨cls,dd,data,g⟩,d,j,n,l⟩:=id pt;simp only at j l;subst j l;have L:=pv.length;have h:¬ (decide (k < -2 ^ 63) ||decide (k≥2 ^ 63))=true:=by simp;lia
 refine abX (T:="tuple") (U:="int") (by decide) ⟨_,d,rfl⟩ (λB=>abW B k u) qA PySem.F.fills_int_mul acp xu PySem.F.slot_int_index.lookup
  (aaS acp (abW s k u) PySem.F.entry_int_rmul (PySem.F.args_int_rmul_2 _ _) (Bu k u p a.toArray n dd g) ⟨d,rfl,⟨_,d,rfl⟩,?_⟩)
 have r:∀m:Nat,(Ev.rep m a).length=m*a.length:=λm=>pC m a;by_cases c:(a.toArray.isEmpty ||k==1)=true
 .refine aaS abj ⟨_,d,rfl⟩ abd (abb _ _) (Bv p a.toArray n dd g k u h c) ⟨d,?_⟩;refine⟨.ref p,H,I,rfl,q1 ?_⟩;rw[aaf]at c;rcases c with c|c
  .have:a=[]:=by simpa using c
   subst this;cases pv;simp[Ev.rep]
  .have:k=1:=by simpa using c
   subst this;simp[Ev.rep]
 .have laid:∀m:Nat,m=k.toNat->EP X pins σ Q (.ref s.heap.objs.size) { s with heap:=s.heap.push { cls:=.type "tuple",data:=.seq (Ev.rep m a).toArray }}:=λm y=>by
   subst y;refine⟨.ref s.heap.objs.size,_,I.laid (t':=s.toks) (o:=.tup (Ev.rep k.toNat vs)) (λb M q=>ZD _ q) (Zw _) ?_,rfl,q2 _ (I.hok.fresh (Zw _))⟩;exact⟨by rw[pC];exact kT (by lia) Z.2.2,_,pv.rep k.toNat,IsTup.new _ _⟩
  by_cases f:(decide (k<=0) ||a.toArray.isEmpty)=true
  .refine aaS abj ⟨_,d,rfl⟩ abd (abb _ _) (Bw p a.toArray n dd g k u h c f) ⟨d,?_⟩;have i:k=0:=by
    rw[aaf]at f c;rcases f with f|f
    .have:k<=0:=ZU f;lia
    .exact absurd (.inl f) c
   have:=laid 0 (by rw[i];rfl);exact this
  .have y:a.toArray.size*k.toNat<=1000000:=by
    rw[ZC];exact Nat.mul_le_mul (by lia:a.length<=1000) (by lia:k.toNat<=1000)
   have C:(a.toArray.size:Int)*k<=1000000:=by
    have e:(a.toArray.size:Int)*k=((a.toArray.size*k.toNat:Nat):Int):=by
     rw[Int.natCast_mul,Int.toNat_of_nonneg Z.1]
    rw[e];lia
   have z:List.foldl (λG J=>G++J) #[] (List.replicate k.toNat a.toArray)=(Ev.rep k.toNat a).toArray:=by
    have:=vn k.toNat a [];simpa using this
   refine aaS abj ⟨_,d,rfl⟩ abd (abb _ _) (Bx p a.toArray n dd g k u h c f (by lia) ?_ ?_) ⟨d,?_⟩
   .unfold Builtin.Tuple.tupleTooMany;simp only[aac];have:(sizeLine:Int)=16777216:=by rw[aaW];rfl
    lia
   .rw[z];simp only[ZC];rw[pC];exact kT (by lia) (by lia)
   .rw[z];exact laid _ rfl
def NW:dJ X (binaryOp .Mult) (iY X.K (Ev.bX .mul)):=by
 intro c s σ H x y v u Q I rx ry q;obtain⟨r,h,a,b,d,P,f,g,B,e,q⟩:=q;cases b with
 |int k=>
  have s2:=B.shape;subst s2;cases a with
  |int i=>
   delta Ev.bX at e;dsimp only at e
   split at e
   .rename_i hz;cases e;refine Mn c s σ H x _ v u Q I rx ry ⟨i,k,g,rfl,?_,q.here rfl f⟩;unfold Ev.bZ at hz;simp only[aaf,yK,aac]at hz;exact hz
   ·exists e
  |str l=>
   delta Ev.bX at e;dsimp only at e
   split at e
   .rename_i hz
    exists e
    obtain⟨rfl,W⟩:=g;obtain⟨t,rfl⟩:=rx;obtain⟨C,rfl⟩:=ry;exact Kr I hz (q.here ⟨rfl,by rw[pC];exact kT (by lia) hz.2.2⟩ f)
   ·exists e
  |tup ds=>
   delta Ev.bX at e;dsimp only at e
   split at e
   .rename_i hz
    exists e
    obtain⟨p,j,rfl,z,w⟩:=g.shape;cases rx;obtain⟨C,rfl⟩:=ry;refine Ks I ⟨hz.1,hz.2.1,by rw[w.length];exact hz.2.2⟩ z (λXi=>q.here ⟨p,j,rfl,z,?_⟩ f) λF G=>q.tup (w.rep k.toNat) f G;have:=w.rep k.toNat;rw[Xi]at this;exact this
   ·exists e
  |ref i=>
   delta Ev.bX at e;dsimp only at e
   split at e
   .rename_i ds J;split at e
    .rename_i hz;obtain⟨p,rfl,z⟩:=g.shape;obtain⟨F,o,j,L,A⟩:=f.ob _ _ J;rw[z]at o;cases o;obtain⟨M,N⟩:=q.lst e (A.rep k.toNat) f;exact MI c s σ H (.ref p) _ v u Q I rx ry ⟨p,k,j,rfl,rfl,L,by lia,by lia,kT (by rw[A.length];exact hz.2.2) (by lia),N⟩
    ·exists e
   ·exists e
  |_=>exists e
 |_=>cases a <;> exists e
end
section
variable{X:Cx}
theorem xy{K:Ψ}{H:Hp}{r:Y2}:∀{ds:T1}{bs:List Bool}{vs:Ty}{us:W1},Ev.boolsOf ds=some bs->aT K H r ds vs->Vals vs us->us=bs.map Value.bool
 |[],bs,vs,us,e,w,p=>by
  cases e;simp only[aT]at w;subst w;cases p;rfl
 |d :: ds,bs,vs,us,e,w,p=>by
  cases d with
  |bl b=>
   simp only[Ev.boolsOf,Uw]at e;obtain⟨a,c,rfl⟩:=e;simp only[aT,RV]at w;obtain⟨v,i,rfl,rfl,f⟩:=w;cases p with
   |cons g h=>
    cases g;rw[xy c f h];rfl
  |_=>exists e
theorem ua{K:Ψ}:∀{ds:T1}{is:Kk}{vs:Ty}{us:W1},Ev.intsOf ds=some is->aT K H r ds vs->Vals vs us->IntsAre us is
 |[],bs,vs,us,e,w,p=>by
  cases e;subst w;cases p;exact .nil
 |d :: ds,bs,vs,us,e,w,p=>by
  cases d with
  |int b=>
   simp only[Ev.intsOf,Uw]at e;obtain⟨a,c,rfl⟩:=e;obtain⟨v,i,rfl,rfl,f⟩:=w;cases p with
   |cons g h=>
    obtain⟨t,rfl⟩:=g;exact .cons _ _ (ua c f h)
  |_=>cases e
theorem zU{K:Ψ}:∀{ds:T1}{ss:Δ}{vs:Ty}{us:W1},Ev.strsOf ds=some ss->aT K H r ds vs->Vals vs us->StrsAre us (ss.map bF)/\∀l∈ss,l.length<=sizeLine
 |[],bs,vs,us,e,w,p=>by
  cases e;subst w;cases p;exact⟨.nil,λl h=>nomatch h⟩
 |d :: ds,bs,vs,us,e,w,p=>by
  cases d with
  |str b=>
   simp only[Ev.strsOf,Uw]at e;obtain⟨a,c,rfl⟩:=e;obtain⟨v,A,rfl,⟨rfl,f⟩,g⟩:=w;cases p with
   |cons i j=>
    obtain⟨t,rfl⟩:=i;obtain⟨o,q⟩:=zU c g j;refine⟨.cons _ _ o,λl y=>?_⟩;rcases qE y with z|z
    .subst z;exact f
    .exact q l z
  |_=>cases e
def vp{A:Around}{pins:Ω}{σ:L2.St}{H:Hp}{s:Shared}(I:Inv X pins σ H s){p:Addr}{us:W1}(Z:PlainL s.heap p us.toArray){Q:Φ}{E:Φ}(h:∀s₂:Shared,s₂={ s with heap:=s.heap.push { cls:=.type "list_iterator",data:=.fields #[.ref p,.int 0 0]}}->(s₂.heap.IsListIter s.heap.objs.size p 0/\s₂.heap.IsList p us.toArray)->p≠s.heap.objs.size->(∀b∈[s.heap.objs.size,p],b<s₂.heap.objs.size)->Q (.ref s.heap.objs.size) s₂):
  wpAny (model X.prog X.w) A (pyIter (.ref p)) Q E s:=by
 have a:p<s.heap.objs.size:=by obtain⟨_,e,_⟩:=Z.isList;exact ZI e
 refine wpAny_pyIter_list Z.isList (h _ rfl ⟨⟨_,ZM _ rfl,rfl,rfl⟩,Z.isList.push _⟩ (ZR a) λb c=>?_);show b<(s.heap.push _).objs.size;rw[aco];rcases qE c with z|z
 .rw[z];exact aa3 _
 .rw[List.mem_singleton.mp z];exact Nat.lt_succ_of_lt a
def all_range{bs:List Bool}:(List.range bs.length).all (λi=>bs[i]?.getD true)=bs.all id:=by
 rw[aaU,List.all_eq_true,List.all_eq_true];constructor
 .intro h b d;obtain⟨i,a,rfl⟩:=List.getElem_of_mem d;simpa[a]using h i (List.mem_range.mpr a)
 .intro h i a;have c:=List.mem_range.mp a;simpa[c]using h bs[i] (by simp)
def any_range{bs:List Bool}:(List.range bs.length).any (λi=>bs[i]?.getD true)=bs.any id:=by
 rw[aaU,List.any_eq_true,List.any_eq_true];constructor
 .rintro⟨i,a,h⟩;have c:=List.mem_range.mp a;exact⟨bs[i],by simp,by simpa[c]using h⟩
 .rintro⟨b,hb,h⟩;obtain⟨i,a,rfl⟩:=List.getElem_of_mem hb;exact⟨i,List.mem_range.mpr a,by simpa[a]using h⟩
def vq{s z:Shared}{I p:Addr}{h':Heap}(e:z.heap=s.heap.push { cls:=.type "list_iterator",data:=.fields #[.ref p,.int 0 0]})(Z:I=s.heap.objs.size)(hk:∀b o,b∉[I]->z.heap.get? b=some o->h'.get? b=some o):
  ∀b o,s.heap.get? b=some o->h'.get? b=some o:=λb o q=>hk b o (by simp;rw[Z];exact ZR (ZI q)) (by rw[e];exact ZD _ q)
variable{G:Tb}{n:Nat}{sc:Scope}{N:Y1}{df:Bool}
def FQ(g:Good G n sc N df X){pins:Ω}{σ:L2.St}{H:Hp}{s:Shared}(I:Inv X pins σ H s){p:Addr}{bs:List Bool}(Z:PlainL s.heap p (bs.map Value.bool).toArray){Q:VK}:
  (Q (.bl (bs.all id)) H->wpAny (model X.prog X.w) X.A (call (.builtin "all") [.ref p]) (EP X pins σ Q) X.xe s)/\(Q (.bl (bs.any id)) H->wpAny (model X.prog X.w) X.A (call (.builtin "any") [.ref p]) (EP X pins σ Q) X.xe s):=by
 have j:=I.ok.hd g.calm;have tr:TruthOf X.prog X.w X.A.in1 (λi v=>(bs.map Value.bool).toArray[i]?=some v) (λi=>bs[i]?.getD true):=λi v o Q' E' l r=>by
  simp only[List.getElem?_toArray,aaa,Uw]at l;obtain⟨b,y,rfl⟩:=l;have TM:Q' (bs[i]?.getD true) o:=r;rw[y]at TM;exact aaK TM
 have c:(bs.map Value.bool).toArray.size=bs.length:=by simp
 constructor
 .intro q;refine call_all_walk (vp I Z λz e d a f=>?_);subst e;refine⟨_,_,_,_,_,_,_,rfl,Walks.list (A:=X.A.in1) j _ p a (bs.map Value.bool).toArray,d,tr,λB tk h=>?_⟩;rw[c,all_range];exact⟨.bl _,H,I.kept (vq rfl rfl h),rfl,q⟩
 .intro q;refine call_any_walk (vp I Z λz e d a f=>?_);subst e;refine⟨_,_,_,_,_,_,_,rfl,Walks.list (A:=X.A.in1) j _ p a (bs.map Value.bool).toArray,d,tr,λB tk h=>?_⟩;rw[c,any_range];exact⟨.bl _,H,I.kept (vq rfl rfl h),rfl,q⟩
def NY(g:Good G n sc N df X):gn X (.builtin "all") (uW X.K (Ev.cQ .all)):=by
 intro a s σ H xs us Q I r q;obtain⟨B,h,i,d,C,b,c,e,q⟩:=q
 match i,e with
 |[.ref m],e=>
  obtain⟨e,rfl⟩:=Ev.aJ e;simp only[Uw,Zz]at e;obtain⟨bs,⟨ds,j,l⟩,rfl⟩:=e;simp only[aT,RV]at c;obtain⟨v,w,rfl,⟨p,rfl,z⟩,rfl⟩:=c;obtain⟨u,rfl,o⟩:=vals1 r;cases o;obtain⟨F,J,f,y,w⟩:=b.read j;rw[z]at f;exists f;obtain⟨L,pv,A,_⟩:=I.list y;have:=xy l w pv;subst this;exact(FQ g I A).1 (q.here rfl b)
def NZ(g:Good G n sc N df X):gn X (.builtin "sum") (uW X.K (Ev.cQ .sum)):=by
 intro f s σ H xs us Q I r q;obtain⟨Z,h,y,d,h',i,A,e,q⟩:=q
 match y,e with
 |[.ref m],e=>
  obtain⟨e,rfl⟩:=Ev.aJ e;simp only[Uw,Zz]at e;obtain⟨is,⟨ds,B,C⟩,rfl⟩:=e;obtain⟨v,w,rfl,⟨p,rfl,z⟩,rfl⟩:=A;obtain⟨u,rfl,F⟩:=vals1 r;cases F;obtain⟨p',vs,j,J,w⟩:=i.read B;rw[z]at j;cases j;obtain⟨L,pv,M,_⟩:=I.list J;have l:=ua C w pv;obtain⟨c,a⟩:=(l.allInts).items;have P:s.heap.IsList p (intItems c):=by rw[<-a];exact M.isList
  refine sum_intListG (I.ok.hd g.calm) P λW tk t' Y=>?_;have b:preSum (numAt c) c.size=is.sum:=by
   have o:numsOf L.toArray.toList=is:=by exact l.numsOf
   rw[a,nums_intItems]at o;rw[preSum_eq,Z1 (by simp),o]
  rw[b];exact⟨.int is.sum,H,I.kept Y,⟨_,rfl⟩,q.here rfl i⟩
def N1:gn X (.builtin "len") (uW X.K (Ev.cQ .len)):=by
 intro a s σ H xs us Q I r q;obtain⟨B,h,i,d,C,b,c,e,q⟩:=q
 match i,e with
 |[.str l],e=>
  delta Ev.cQ at e;dsimp only at e
  split at e
  ·exists e
   obtain⟨v,w,rfl,⟨rfl,j⟩,rfl⟩:=c;refine wG a s σ H _ us Q I r ⟨_,rfl,by exact j,?_⟩;exact q.here rfl b
  ·exists e
 |[.tup ds],e=>
  exists e
  obtain⟨v,w,rfl,⟨p,f,rfl,z,o⟩,rfl⟩:=c;refine nR a s σ H _ us Q I r ⟨p,f,rfl,.inr z,?_⟩;rw[o.length];exact q.here rfl b
 |[.ref m],e=>
  obtain⟨e,rfl⟩:=Ev.aJ e;simp only[Uw]at e;obtain⟨ds,y,rfl⟩:=e;simp only[aT,RV]at c;obtain⟨v,w,rfl,⟨p,rfl,z⟩,rfl⟩:=c;obtain⟨F,f,g,A,w⟩:=b.read y;rw[z]at g;cases g;refine nR a s σ H _ us Q I r ⟨p,f,rfl,.inl A,?_⟩;rw[w.length];exact q.here rfl b
def N2(g:Good G n sc N df X):gn X (.builtin "min") (uW X.K (Ev.cQ .min)):=by
 intro a s σ H xs us Q I r q;obtain⟨l,h,c,d,o,f,b,e,q⟩:=q
 match c,e with
 |[.int i,.int j],e=>
  exists e
  simp only[aT,RV]at b;obtain⟨v,w,rfl,rfl,p,y,rfl,rfl,rfl⟩:=b;exact CD g.calm a s σ H _ us Q I r ⟨i,j,rfl,q.here rfl f⟩
def Dm:uP X "list.append" (wU X.K (Ev.fK .append)):=by
 intro c s σ H x xs v us Q I rx rs q;obtain⟨r,h,a,B,d,L,i,C,F,e,q⟩:=q;cases a with
 |ref m=>
  match B,e with
  |[b],e=>
   delta Ev.fK at e;dsimp only at e
   split at e
   .rename_i ds j;split at e
    .rename_i hz
     exists e
     obtain⟨p,rfl,z⟩:=C.shape;obtain⟨y,w,rfl,J,rfl⟩:=F;obtain⟨M,l,o,g,A⟩:=i.ob _ _ j;rw[z]at l;cases l;refine uQ c s σ H _ _ v us Q I rx rs ⟨p,o,y,rfl,rfl,g,by rw[A.length];exact hz,?_⟩;have f:=Fm.write (K:=X.K) (ws:=o++[y]) g (ZA z);exact q _ _ r rfl (i.write j z g (A.append (.cons J .nil))) f
    ·exists e
   ·exists e
  |[],e=>exists e
  |_ :: _ :: _,e=>exists e
 |_=>exists e
def Dn:uP X "list.extend" (wU X.K (Ev.fK .extend)):=by
 intro b s σ H x xs v us Q I rx rs q;obtain⟨r,h,a,A,d,P,c,B,C,e,q⟩:=q;cases a with
 |ref m=>
  match A,e with
  |[.ref k],e=>
   delta Ev.fK at e;dsimp only at e
   split at e
   .rename_i ds W i F;split at e
    .rename_i hz
     exists e
     obtain⟨p,rfl,z⟩:=B.shape;obtain⟨y,w,rfl,⟨J,rfl,L⟩,rfl⟩:=C;obtain⟨Y,j,l,g,o⟩:=c.ob _ _ i;rw[z]at j;cases j;obtain⟨M,k1,ws,k2,k3⟩:=c.ob _ _ F;rw[L]at k1;cases k1;refine CM b s σ H _ _ v us Q I rx rs ⟨p,J,l,ws,rfl,rfl,g,k2,by rw[o.length,k3.length];exact hz,?_⟩;have f:=Fm.write (K:=X.K) (ws:=l++ws) g (ZA z);exact q _ _ r rfl (c.write i z g (o.append k3)) f
    ·exists e
   ·exists e
 |_=>exists e
def N3:uP X "list.pop" (wU X.K (Ev.fK .pop)):=by
 intro b s σ H x xs v us Q I rx rs q;obtain⟨r,h,a,A,d,W,j,B,C,e,q⟩:=q;cases a with
 |ref m=>
  match A,e with
  |[],e=>
   delta Ev.fK at e;dsimp only at e
   split at e
   .rename_i ds l;split at e
    .rename_i y F;cases e;obtain⟨p,rfl,z⟩:=B.shape;subst C;obtain⟨Y,o,g,i,c⟩:=j.ob _ _ l;rw[z]at o;cases o;obtain⟨J,L,M⟩:=c.get F;refine MG b s σ H _ _ v us Q I rx rs ⟨p,g,J,rfl,rfl,i,by rw[c.length];exact L,?_⟩;have f:=Fm.write (K:=X.K) (ws:=g.dropLast) i (ZA z);have P:aT X.K H r ds.dropLast g.dropLast:=by
      rw[aa2,aa2,c.length];exact c.take _
     exact q _ _ r (M.mono f) (j.write l z i P) f
    ·exists e
   ·exists e
  |_ :: _,e=>exists e
 |_=>exists e
theorem qB(z:Ξ):∀ss:Δ,Str.join (bF z) (ss.map bF)=bF (Ev.cE z ss)
 |[]=>rfl
 |[s]=>rfl
 |s :: t :: r=>by
  have a:=qB z (t :: r);show bF s++bF z++Str.join (bF z) ((t :: r).map bF)=_;rw[a,t9,t9];rfl
def join_eq(z:Ξ)(ss:Δ):Txt.join (bF z) (ss.map bF)=bF (Ev.cE z ss):=by
 rw[<-qB];exact PySem.StrLaws.glued_eq_join _ _
def Ku:uP X "str.join" (wU X.K (Ev.fK .join)):=by
 intro i s σ H x xs v us Q I rx rs q;obtain⟨r,h,a,o,d,P,j,p,z,e,q⟩:=q;cases a with
 |str b=>
  match o,e with
  |[.ref k],e=>
   delta Ev.fK at e;dsimp only at e
   split at e
   .rename_i g f;split at e
    .rename_i hz
     exists e
     simp only[Zz]at f;obtain⟨ds,f,A⟩:=f;obtain⟨rfl,W⟩:=p;obtain⟨t,rfl⟩:=rx;obtain⟨y,w,rfl,⟨Y,rfl,B⟩,rfl⟩:=z;obtain⟨u,rfl,C⟩:=vals1 rs;cases C;obtain⟨Z,vs,l,F,w⟩:=j.read f;rw[B]at l;exists l;obtain⟨zs,pv,J,_⟩:=I.list F;obtain⟨L,g2⟩:=zU A w pv;have c:((g.map bF).map (·.length)).sum+(g.map bF).length*(bF b).length<=16777216:=by
      rw[abw,ZF,gK];exact hz
     refine join_list J.isList L c λt' k'=>?_;rw[join_eq];refine⟨.str _,H,I.tok _,⟨_,rfl⟩,q.here ⟨rfl,?_⟩ j⟩;have M:=PySem.StrLaws.join_length_le (bF b) (g.map bF);rw[qB,gK]at M;have:=aaW;lia
    ·exists e
   ·exists e
 |_=>exists e
end
section
variable{a:E}
theorem Vals.reverse(w:Vals vs us):Vals vs.reverse us.reverse:=by
 induction w with
 |nil=>exact .nil
 |cons a _ b=>rw[Z0,Z0];exact b.append (.cons a .nil)
end
section
variable{G:Tb}{n:Nat}{sc:Scope}{N:Y1}{df:Bool}{m:Ξ}{a c:E}{xa:Expr}{pos:Pos}
def FT(g:Good G n sc N df X):gn X (.type "tuple") (λxs H Q=>∃r h d x Z h',HR X.K H r h/\RV X.K H r d x/\xs=[x]/\Ev.tU d h=.ok Z h'/\Res X.K r H h' Z Q):=by
 intro b s σ H xs us Q I rv q;obtain⟨r,h,d,x,Z,h',f,j,rfl,e,q⟩:=q;cases d with
 |tup ds=>
  exists e
  have A:=j;obtain⟨p,o,rfl,z,w⟩:=j.shape;exact nq b s σ H _ us Q I rv ⟨p,o,rfl,.inr ⟨z,q.here A f⟩⟩
 |ref i=>
  simp only[Ev.tU]at e;split at e
  .rename_i ds B;split at e
   ·exists e
    obtain⟨p,rfl,z⟩:=j.shape;obtain⟨J,o,y,C,w⟩:=f.read B;rw[z]at y;cases y;exact nq b s σ H _ us Q I rv ⟨p,o,rfl,.inl ⟨C,λl F=>q.tup w f F⟩⟩
   ·exists e
  ·exists e
 |_=>exists e
def N4{p:Pos}(Z:JE G n sc N df m a xa)(h1:("tuple":Str)∈G.bl:=by decide)(Dp:sc.names.lookup ("tuple":Str)=some .globalImplicit:=by rfl)(I:∀env:Env,starEach [xa] env=[(false,eval xa env)]:=by intro _;rfl):JE G n sc N df m (.iU a) (.Call (.Name "tuple" p) [xa] [] pos):=λX g=>by
 refine PE.of (CH (FT g) (g.gl Dp) (g.bl _ h1) (by decide) (jq (Z X g) lU (I _)) (by decide) (by decide) (I _) rfl) λs H Q q=>?_;obtain⟨r,f,h,d,i,j,l,e,q⟩:=q;obtain⟨x,o,y,e⟩:=Ev.ai e;refine⟨r,f,h,x,_,j,l,y,λv H1 z A b f1=>?_⟩;exact⟨z,o,x,v,d,i,b,A,rfl,e,q.later f1⟩
def N5{c:Nat}{st:Stmt}:JS G n sc N df m (.eG c) st:=λX g=>PS.of EW λQ s H q=>by
 obtain⟨r,b,h,fl,d,f,i,j,e,q⟩:=q
 exists e
end
def zV{X:Cx}{pins:Ω}{σ:L2.St}{H:Hp}{s:Shared}{h':Heap}{t':Nat}{ch:Y2}(I:Inv X pins σ H s)(k:∀b o,b∉ch->s.heap.get? b=some o->h'.get? b=some o)(Z:∀b∈ch,gS X pins H b):Inv X pins σ H { s with heap:=h',toks:=t' }:=by
 have Cw:∀b u,H b=some u->b∉ch:=λb u e z=>by rw[(Z b z).1]at e;exists e
 refine I.step (g':=s.gens) (d':=s.drawn) (ch:=ch) (λb d=>?_) (λb o _ _ a e _=>k b o a e) (λb o _ _ a e _=>⟨o.slots,k b o a e⟩) (λ_ _ _ _ n=>n)
  (λb o a e=>⟨o,k b o a e⟩) (λ_ _ e=>e) (λ_ _ _ e=>e) (λb ps e=>⟨#[],by rw[e];simp⟩) (λm f=>?_) (λb u e=>?_) I.bare
 .obtain⟨f0,f1,f2,f3,f4,f5⟩:=Z b d;exact⟨f3,f1,f4,f5⟩
 .obtain⟨o,g,h,i,r⟩:=f;exact⟨o,g,h,k _ o (λz=>(Z _ z).2.1 rfl) i,r⟩
 .refine(I.hok b u e).stay (λc v a q=>k c v ?_ q) (λ_ q=>q) λ_ _ q=>q;rcases a with z|z
  .rw[z];exact Cw b u e
  .exact Cw c _ z
end Sm
namespace Rv
open PySem PyProof.Rows
def slot_next:Slot "reversed" "__next__" "reversed.__next__" :=
 .of (owner:="reversed") (n:="__next__") (by kernel_rfl) (by decide) (by decide) (by decide)
  (by first|exact .inl (by decide)|exact .inr (by decide)) (by kernel_rfl)
def entry_next:entryFor table "reversed.__next__" = some Builtin.«reversed.__next__»:=entryFor_of_tree (by kernel_rfl)
def args_next(a:Value):argsOk "reversed.__next__" ⟨[a],[]⟩:=by
 kernel_rfl
def vt:Slot "reversed" "__iter__" "reversed.__iter__" :=
 .of (owner:="reversed") (n:="__iter__") (by kernel_rfl) (by decide) (by decide) (by decide)
  (by first|exact .inl (by decide)|exact .inr (by decide)) (by kernel_rfl)
def Dq(a:Value):argsOk "reversed.__iter__" ⟨[a],[]⟩:=by
 kernel_rfl
def By:entryFor table "reversed.__iter__" = some Builtin.«dict_keyiterator.__iter__»:=
 entryFor_alias (id':="dict_keyiterator.__iter__") (by kernel_rfl) (by first|rfl|decide | (simp +decide [String.splitOnAux])) (by decide) (by kernel_rfl)
def oh:Slot "reversed" "__length_hint__" "reversed.__length_hint__" :=
 .of (owner:="reversed") (n:="__length_hint__") (by kernel_rfl) (by decide) (by decide) (by decide)
  (by first|exact .inl (by decide)|exact .inr (by decide)) (by kernel_rfl)
def BA:entryFor table "reversed.__length_hint__" = some Builtin.«reversed.__length_hint__»:=entryFor_of_tree (by kernel_rfl)
def Ds(a:Value):argsOk "reversed.__length_hint__" ⟨[a],[]⟩:=by
 kernel_rfl
def N6:typeLookup (.type "reversed") "__len__" = pure none:=by kernel_rfl
def N7:typeLookup (.type "tuple") "__reversed__" = pure none:=by kernel_rfl
section
variable{prog:Program}{w:World}{A:Around}{E:Φ}{s:Shared}
def Dt:Slot "reversed" "__init__" "object.__init__" :=
 .of (owner:="object") (n:="__init__") (by kernel_rfl) (by decide) (by decide) (by decide)
  (by first|exact .inl (by decide)|exact .inr (by decide)) (by kernel_rfl)
def called:TypeCalled "reversed" "reversed.__new__" "object.__init__" :=
 ⟨by decide,by decide,⟨_,_,F.mro_reversed⟩,F.made_reversed,by decide,F.sub_reversed_self,Dt⟩
def gU(h:Heap)(a t:Addr)(i:Int):Prop:=∃o,h.get? a=some o/\o.cls=.type "reversed" /\o.data=.fields #[.ref t,rawInt i]
def gU.typeIs(x:gU s.heap a l i):s.TypeIs (.ref a) "reversed" :=let ⟨o,ho,hc,_⟩:=x;⟨o,ho,hc⟩
def gU.at(x:gU h a l i)(e:∀o,h.get? a=some o->h'.get? a=some o):gU h' a l i:=let ⟨o,ho,r⟩:=x;⟨o,e _ ho,r⟩
def pD(l:Addr)(i:Int):Obj:={ cls:=.type "reversed",data:=.fields #[.ref l,rawInt i]}
def pF(x:IsTup h t items)(e:∀o,h.get? t=some o->h'.get? t=some o):IsTup h' t items:=let ⟨o,ho,r⟩:=x;⟨o,e _ ho,r⟩
def FU(I:IsTup s.heap t items)(z:(items.size:Int)<2 ^ 63)(h:Q₁ (.ref s.heap.objs.size) { s with heap:=s.heap.push (pD t ((items.size:Int) - 1)),toks:=s.toks+1+1 }):
  codeAny (model prog w) A (.call (.builtin "reversed.__new__") ⟨[.type "reversed",.ref t],[]⟩) (wants Q₁ E) s:=by
 refine codeAny_of_tree ?_;refine gH (aaL (F.newCall_reversed_1 _) (Ws ⟨plainId_quiet F.plain_reversed_new _,codeAny_builtin F.entry_reversed_new ?_⟩));refine gH (aaL (newClass_reversed _) ?_);try dsimp only
 refine gH (aaL (by first|rfl|kernel_rfl) ?_);refine gH (aaL (by first|rfl|kernel_rfl) ?_);try dsimp only
 refine gH (aaT I.typeIs N7 ?_);try dsimp only
 refine gH ?_
 wp_delta
 refine gH (ab3 (b:=false) I.typeIs (by kernel_rfl) ?_);refine aad (λa=>absurd a (by decide)) (λ_=>?_);refine gH (aaT I.typeIs slot_tuple_getitem.lookup ?_);try dsimp only
 refine aad (λ_=>?_) (λa=>absurd (by decide) a);refine Ws ?_;refine aad (λa=>absurd a (by decide)) (λ_=>?_);refine gH (len_tuple I z ?_);refine gH (Ws ?_);try dsimp only
 refine gH ?_;unfold Builtin.SmallTypes.newRecord;refine aak ?_ (by size_fits);exact Ws h
def FY(I:IsTup s.heap t items)(z:(items.size:Int)<2 ^ 63)(h:Q (.ref s.heap.objs.size) { s with heap:=s.heap.push (pD t ((items.size:Int) - 1)),toks:=s.toks+1+1 }):wpAny (model prog w) A (call (.type "reversed") [.ref t]) Q E s:=by
 refine callType_codes (Q₁:=λa b=>a=.ref s.heap.objs.size/\b={ s with heap:=s.heap.push (pD t ((items.size:Int) - 1)),toks:=s.toks+1+1 }) called (F.typeCall_reversed_1 _) F.entry_object_init (FU I z ⟨rfl,rfl⟩) ?_;rintro a b ⟨rfl,rfl⟩;have c:({ s with heap:=s.heap.push (pD t ((items.size:Int) - 1)),toks:=s.toks+1+1 }).TypeIs (.ref s.heap.objs.size) "reversed" :=⟨_,ZM _ rfl,rfl⟩
 refine⟨c,F.args_object_init_2 _ _,?_⟩;exact object_init_meets called.init.lookup called.made (by decide) prog w A.in1 _ _ ⟨c,rfl,h⟩
def next_item{i:Nat}(z:gU s.heap it t (i:Int))(I:IsTup s.heap t items)(Z:items[i]?=some x)(hfit:(items.size:Int)<2 ^ 62)(hQ:∀h' tk,gU h' it t ((i:Int) - 1)->Heap.SameBut it s.heap h'->Q (some x) { s with heap:=h',toks:=tk }):wpAny (model prog w) A (pyNext (.ref it)) Q E s:=by
 obtain⟨o,b,d,a⟩:=id z;have e:=(Array.getElem?_eq_some_iff.mp Z).1;refine gH (aa4 (aaQ z.typeIs slot_next
  (aax slot_next z.typeIs entry_next ?_ (args_next _))))
 refine gH (aaL rfl ?_);try dsimp only
 refine gH (aaA b a rfl ?_);refine gH (aaA b a rfl ?_);try dsimp only
 refine gH (aaT I.typeIs slot_tuple_getitem.lookup ?_);try dsimp only
 refine aad (λc=>absurd c (by decide)) (λ_=>?_);refine gH (wpAny_mkInt ?_);refine gH (aa4 (getItem_tuple I (by lia) (by lia) (by unfold seqIndex?;simp;lia) Z ?_));try dsimp only
 refine gH (aaA b a rfl ?_);refine gH (acn b a (by simp) ?_);refine Ws ⟨x,rfl,Ws (hQ _ _ ?_ (abH ..))⟩;exact⟨_,aap _ b (Obj.isFreed_of_fields (aa9 a _)),(Obj.cls_mapFields ..).trans d,by
  rw[aa9 a];simp⟩
def next_end(I:A.handled=none)(z:gU s.heap it t (-1))(Z:∀h',Heap.ExtBut it s.heap h'->Q none { s with heap:=h' }):wpAny (model prog w) A (pyNext (.ref it)) Q E s:=by
 obtain⟨o,b,d,a⟩:=id z;refine gH (aa4 (aaQ z.typeIs slot_next
  (aax slot_next z.typeIs entry_next ?_ (args_next _))))
 refine gH (aaL rfl ?_);try dsimp only
 refine gH (aaA b a rfl ?_);refine gH (aaA b a rfl ?_);show wpAny _ _ (if (-1)<0 then _ else _) _ _ s;refine gH (abV ?_);refine gH ?_
 wp_delta
 refine gH (acn b a (by simp) ?_);have c:=aap (Obj.mapFields λx=>x.setIfInBounds 1 (rawInt (-1))) b (Obj.isFreed_of_fields (aa9 a _));refine acn c (aa9 a _) (by simp) ?_;refine gH ?_;first
 |show wpAny _ _ (newExc (.type "StopIteration") [] >>= _) _ _ _
 | (refine gH ?_;show wpAny _ _ (newExc (.type "StopIteration") [] >>= _) _ _ _)
 refine gH ?_;refine gH (aak ?_ (by size_fits));refine gH (aaL (by first|rfl | (rfl)) ?_);refine aak ?_ (by size_fits);refine gH (wpAny_handled ?_);first|rw[show A.in1.handled=none from I]|rw[I]
 refine gH (Ws (wpAny_throw ?_));refine gH (ab3 ⟨_,ZM _ rfl,rfl⟩ isSubtype_stop ?_);exact Ws (Z _ ((((abH ..).extBut.trans (abH ..).extBut).push _).push _))
def xA(z:gU s.heap it t i)(h:Q (.ref it) s):wpAny (model prog w) A (pyIter (.ref it)) Q E s:=by
 refine wpAny_pyIter_slot z.typeIs vt (aax vt z.typeIs By ?_ (Dq _));exact Ws ⟨_,rfl,"reversed",_,z.typeIs,slot_next.lookup,h⟩
def FZ(z:gU s.heap it t ((items.size:Int) - 1))(Z:IsTup s.heap t items)(I:items.size<=sizeLine)(h:∀tk,Q ((items.size:Int) != 0) { s with toks:=tk }):wpAny (model prog w) A (Builtin.List.listLengthHint (.ref it)) Q E s:=by
 obtain⟨o,e,i,f⟩:=id z;refine gH (aaT z.typeIs N6 ?_);refine aad (λc=>absurd c (by decide)) (λ_=>?_);refine aad (λc=>absurd c (by decide)) (λ_=>?_);refine gH (aaT z.typeIs oh.lookup ?_);generalize hid:("reversed.__length_hint__" : String)=Zl
 subst hid;refine gH (ab3 (T:="reversed") (b:=true) z.typeIs (by rw[isSubtype_type];kernel_rfl) ?_);refine aad (λc=>absurd c (by decide)) (λ_=>?_);refine aad (λc=>absurd c (by decide)) (λ_=>?_);refine gH (abV ?_);refine gH (aaL (oh.bind _) ?_);refine gH (aa4 (aax oh z.typeIs BA ?_ (Ds _)));refine gH (aaL (a:=Value.ref it) rfl ?_);refine gH (aaA e f (x:=.ref t) rfl ?_);refine aad (λc=>absurd c Z5) (λ_=>?_);have d:(items.size:Int)<2 ^ 63:=by rw[aaW]at I;lia
 refine gH (len_tuple Z d ?_);refine gH (m:=asInt? _) (Ws ?_);refine gH (aaA e f (x:=rawInt ((items.size:Int) - 1)) rfl ?_);show wpAny _ _ (if (items.size:Int)<(items.size:Int) - 1+1 then _ else _) _ _ _;rw[Yl (by lia)];have g:(items.size:Int) - 1+1=(items.size:Int):=by lia
 rw[g];refine gH (wpAny_mkInt (Ws ⟨_,rfl,?_⟩));generalize s.toks+1+1=tk
 refine gH ?_;refine Ws (a:=some (items.size:Int)) ?_;have Xj:Builtin.List.listFitsIndex (items.size:Int)=true:=by unfold Builtin.List.listFitsIndex;rw[ZO (by lia),ZO (by lia)];rfl
 show wpAny _ _ (if (!Builtin.List.listFitsIndex (items.size:Int))=true then _ else _) _ _ _;rw[Yl (by rw[Xj];decide)];show wpAny _ _ (if (items.size:Int)<0 then _ else _) _ _ _;rw[Yl (by lia)];have Xk:Builtin.List.listTooLong ((items.size:Int).toNat)=false:=by unfold Builtin.List.listTooLong;rw[aaX];exact ZG (by lia)
 show wpAny _ _ (if Builtin.List.listTooLong ((items.size:Int).toNat)=true then _ else _) _ _ _;rw[Yl (by rw[Xk];decide)];exact Ws (h _)
def _root_.PySem.Walks.N8(hh:A.handled=none)(I t:Addr)(hne:t≠I)(z:Array Value)(Z:(z.size:Int)<2 ^ 62):
  Walks prog w A I [I,t] [I] z.size (λi v=>z[z.size - 1 - i]?=some v) (λi h=>i<=z.size/\gU h I t ((z.size:Int) - 1 - (i:Int))/\IsTup h t z) where
 sub:=λb c=>by simp at c;simp[c]
 frame:=λ_ _ _ x p=>⟨x.1,x.2.1.at λo e=>p I (by simp) o e,pF x.2.2 λo e=>p t (by simp) o e⟩
 item:=λi s Q E r x d=>by
  have e:(z.size:Int) - 1 - (i:Int)=((z.size - 1 - i:Nat):Int):=by lia
  have a:=x.2.1;rw[e]at a;have q:z[z.size - 1 - i]?=some (z[z.size - 1 - i]'(by lia)):=abZ (by lia);refine next_item a x.2.2 q Z λj tk N9 f=>?_;have y:((z.size - 1 - i:Nat):Int) - 1=(z.size:Int) - 1 - ((i+1:Nat):Int):=by lia
  rw[y]at N9;exact d _ j tk q ⟨r,N9,pF x.2.2 λo g=>(f.2 t hne).trans g⟩ λb o c g=>f.extBut b o (λh=>c (by simp[h])) g
 done:=λs Q E x d=>by
  have e:(z.size:Int) - 1 - (z.size:Int) = -1:=by lia
  have a:=x.2.1;rw[e]at a;exact next_end hh a λj l=>d j s.toks λb o c g=>l b o (λh=>c (by simp[h])) g
 self:=λ_ _ _ _ x d=>xA x.2.1 d
def BB{R:Result->Shared->Prop}{I t:Addr}{Z:Array Value}(hh:A.handled=none)(hit:gU s.heap I t ((Z.size:Int) - 1))(ht:IsTup s.heap t Z)(hne:t≠I)(hlen:Z.size<=sizeLine)(S:Addr)(hSI:S≠I)(hSt:S≠t)(res:Value)(c₀:Nat)(hS:s.heap.get? S=some { cls:=.type "list",data:=.seq #[] c₀ })(hR:∀h' tk acc' c',(∀b o,b≠S->b≠I->s.heap.get? b=some o->h'.get? b=some o)->h'.get? S=some { cls:=.type "list",dict:=none,data:=.seq acc' c',slots:=#[]}->
   ItemsOf (λi v=>Z[Z.size - 1 - i]?=some v) acc' Z.size->R (.ok (.ret res)) { s with heap:=h',toks:=tk }):
  wpAny (model prog w) A.in1 (Builtin.List.listExtendWith (.ref S) (.ref I) res)
   (λfin s'=>match fin with|.done f=>R (.ok f) s'|.again c'=>c'.quiet=true/\codeAny (model prog w) A c' R s') (λe s'=>R (.error e) s') s:=by
 have B:(Z.size:Int)<2 ^ 62:=by rw[aaW]at hlen;lia
 have l:S∉[I,t]:=λj=>by rcases qE j with e|e;exact hSI e;exact hSt (List.mem_singleton.mp e)
 have W:=(Walks.N8 (prog:=prog) (w:=w) (A:=A.in1) hh I t hne Z B).toS;have c:∀(h:Heap) (p tk:Nat),gU h I t ((Z.size:Int) - 1 - ((0:Nat):Int))->IsTup h t Z->(∀b o,b≠S->s.heap.get? b=some o->h.get? b=some o)->
   h.get? S=some { cls:=.type "list",data:=.seq #[] p }->codeAny (model prog w) A (.builtin "list.extend.loop" ⟨[.ref S,.ref I,res],[]⟩) R { s with heap:=h,toks:=tk }:=by
  intro h p tk hit ht C RY;refine codeAny_extend_loopS W hlen S l res Z.size 0 _ #[] p rfl (aas _) ⟨aas _,hit,ht⟩ RY (ItemsOf.nil _) λs' acc' c' j q d=>?_;rw[Moved.eq_with j];refine hR s'.heap s'.toks acc' c' (λb o g r e=>j.heap b o (λa=>?_) (C b o g e)) q d;rcases qE a with G|a
  .exact g G
  .exact r (List.mem_singleton.mp a)
 unfold Builtin.List.listExtendWith;refine gH (ab0 (T:="reversed") hit.typeIs ?_);have H:Builtin.List.listSameRef (.ref S) (.ref I)=false:=by simp[Builtin.List.listSameRef,hSI]
 have J:(Value.type "reversed" ==Value.type "list")=false:=by decide
 have K:(Value.type "reversed" ==Value.type "tuple")=false:=by decide
 simp only[H,J,K,Bool.or_false,aaD,abn];refine gH (xA hit ?_);refine gH (aan (FZ hit ht hlen λtk=>?_));have Oa:gU s.heap I t ((Z.size:Int) - 1 - ((0:Nat):Int)):=by simpa using hit
 refine aad (λ_=>?_) (λ_=>Ws ⟨plainId_quiet F.plain_extend_loop _,c _ c₀ _ Oa ht (λb o _ e=>e) hS⟩);refine gH (abV ?_);refine gH ?_;show wpAny _ _ (updateSeq S (·.push .none) >>= λ_=>updateSeq S (·.pop)) _ _ _;refine gH (acg hS rfl ?_);have z:=aap (Obj.mapSeq (·.push Value.none)) hS rfl;refine acg (hz:=by seq_fits) z rfl ?_;have RZ:=aap (Obj.mapSeq (·.pop)) z rfl;have y:∀b o,b≠S->s.heap.get? b=some o->((s.heap.update S (Obj.mapSeq (·.push Value.none))).update S (Obj.mapSeq (·.pop))).get? b=some o:=λb o g e=>(aaB _ _ (aav g)).trans ((aaB _ _ (aav g)).trans e);exact Ws ⟨plainId_quiet F.plain_extend_loop _,c _ _ _ (Oa.at λo e=>y _ _ (aav hSI) e) (pF ht λo e=>y _ _ (aav hSt) e) y RZ⟩
def Ga{R:Result->Shared->Prop}{I t:Addr}{z:Array Value}(hh:A.handled=none)(hit:gU s.heap I t ((z.size:Int) - 1))(ht:IsTup s.heap t z)(hne:t≠I)(Z:z.size<=sizeLine)(S:Addr)(hSI:S≠I)(hSt:S≠t)(hS:s.heap.get? S=some { cls:=.type "list",data:=.seq #[]})(hR:∀h' tk acc' c',(∀b o,b≠S->b≠I->s.heap.get? b=some o->h'.get? b=some o)->h'.get? S=some { cls:=.type "list",dict:=none,data:=.seq acc' c',slots:=#[]}->
   ItemsOf (λi v=>z[z.size - 1 - i]?=some v) acc' z.size->R (.ok (.ret .none)) { s with heap:=h',toks:=tk }):
  wpAny (model prog w) A.in1 (Builtin.«list.__init__» ⟨[.ref S,.ref I],[]⟩)
   (λfin s'=>match fin with|.done f=>R (.ok f) s'|.again c'=>c'.quiet=true/\codeAny (model prog w) A c' R s') (λe s'=>R (.error e) s') s:=by
 show wpAny _ _ (do let old <-Builtin.List.listItems (.ref S);Builtin.List.listUpdate (.ref S) (λ_=>#[]);letGo old.toList.reverse;Builtin.List.listExtendWith (.ref S) (.ref I) .none) _ _ s;refine gH ?_;unfold Builtin.List.listItems;refine gH (wpAny_seqItems hS rfl (Ws ?_));show wpAny _ _ (updateSeq S (λ_=>#[]) >>= λ_=>letGo (#[]:Array Value).toList.reverse >>= λ_=>Builtin.List.listExtendWith (.ref S) (.ref I) .none) _ _ s;refine gH (acg hS rfl ?_);have h:=aap (Obj.mapSeq (λ_=>(#[]:Array Value))) hS rfl;have rL:∀b o,b≠S->s.heap.get? b=some o->(s.heap.update S (Obj.mapSeq (λ_=>(#[]:Array Value)))).get? b=some o:=
  λb o c e=>(aaB _ _ (aav c)).trans e
 refine gH (wpAny_letGo ?_);refine BB hh (hit.at λo e=>rL _ _ (aav hSI) e) (pF ht λo e=>rL _ _ (aav hSt) e) hne Z S hSI hSt .none _ h λh' tk acc' c' j d a=>?_;exact hR h' tk acc' c' (λb o c g e=>j b o c g (rL b o c e)) d a
def vO(hh:A.handled=none)(z:gU s.heap I t ((items.size:Int) - 1))(ht:IsTup s.heap t items)(hne:t≠I)(Z:items.size<=sizeLine)(hQ:∀h' tk acc' c',(∀b o,b≠I->s.heap.get? b=some o->h'.get? b=some o)->
   h'.get? s.heap.objs.size=some { cls:=.type "list",dict:=none,data:=.seq acc' c',slots:=#[]}->ItemsOf (λi v=>items[items.size - 1 - i]?=some v) acc' items.size->Q (.ref s.heap.objs.size) { s with heap:=h',toks:=tk }):
  wpAny (model prog w) A (call (.type "list") [.ref I]) Q E s:=by
 refine callType_codes (Q₁:=λa g=>a=.ref s.heap.objs.size/\g={ s with heap:=s.heap.push { cls:=.type "list",data:=.seq #[]}}) F.called_list (F.typeCall_list_1 _) F.entry_list_init
  (code_list_new _ ⟨rfl,rfl⟩) λa g j=>?_
 obtain⟨rfl,rfl⟩:=j;have h:(s.heap.push { cls:=.type "list",data:=.seq #[]}).get? s.heap.objs.size=some { cls:=.type "list",data:=.seq #[]}:=ZM _ rfl;have l:I<s.heap.objs.size:=by obtain⟨o,d,_⟩:=z;exact ZI d
 have p:t<s.heap.objs.size:=by obtain⟨o,d,_⟩:=ht;exact ZI d
 refine⟨⟨_,h,rfl⟩,F.args_list_init_2 _ _,Ga (A:=A.in1) hh (z.at λo e=>ZD _ e) (pF ht λo e=>ZD _ e) hne Z _ (acI l) (acI p) h λh' tk acc' c' q f c=>?_⟩;exact⟨rfl,hQ h' tk acc' c' (λb o r e=>q b o (ZR (ZI e)) r (ZD _ e)) f c⟩
end
end Rv
namespace Sm
open PySem PySem.Spec PyProof.Rows L2 PySem.SeqAt
open Ev (D O Hh Fr R aE E Es Eo T S Ss Fl Src bA br TY BI ME)
section
variable{X:Cx}{G:Tb}{n:Nat}{sc:Scope}{N:Y1}{df:Bool}{m:Ξ}{a b:E}{xa:Expr}{pos:Pos}
def Gb(r:Vals vs us)(h:ItemsOf (λi v=>us.toArray[us.toArray.size - 1 - i]?=some v) acc us.toArray.size):Vals vs.reverse acc.toList:=by
 obtain⟨c,g⟩:=h;have e:acc.toList=us.reverse:=by
  apply abU;intro i;by_cases d:i<us.length
  .have f:i<acc.size:=by rw[c];simpa using d
   have:=g i _ (abZ f);rw[List.getElem?_reverse d];simp only[ZC,List.getElem?_toArray]at this;rw[this];simp[f]
  .have j:acc.size=us.length:=by rw[c];simp
   rw[Z7 (by rw[aaP];lia),Z7 (by rw[List.length_reverse];lia)]
 rw[e];exact Vals.reverse r
def Kv{p p2 pos2:Pos}(ha:JE G n sc N df m a xa)(h1:("list":Str)∈G.bl:=by decide)(Dp:sc.names.lookup ("list":Str)=some .globalImplicit:=by rfl)(hg:sc.names.lookup ("reversed":Str)=some .globalImplicit:=by rfl)(hb:("reversed":Str)∈G.bl:=by decide)(hst:∀env:Env,starEach [xa] env=[(false,eval xa env)]:=by intro _;rfl)(xB:∀env:Env,starEach [Expr.Call (.Name "reversed" p2) [xa] [] pos2] env=[(false,eval (Expr.Call (.Name "reversed" p2) [xa] [] pos2) env)]:=by intro _;rfl):
  JE G n sc N df m (.gZ (.rev a)) (.Call (.Name "list" p) [.Call (.Name "reversed" p2) [xa] [] pos2] [] pos):=λX g=>by
 intro i s σ H Q I q;obtain⟨r,W,h,d,Y,Z,hr,e,q⟩:=q;rw[Ev.ev,Ev.cL]at e;replace e:=Ev.ai e;obtain⟨src,L,c,e⟩:=e;replace c:=Ev.ai c;obtain⟨x,h4,e2,c⟩:=c;replace c:=Ev.aJ c;obtain⟨c,y0⟩:=c;subst y0;refine aao (jN I (g.gl Dp) (g.bl _ h1) (show bootBuiltins ("list":Str)=some (.type "list")by decide) ?_ (by decide) (by decide));refine aaE ?_ (xB _) rfl;rw[xB];show wpAny _ _ (spliced ((false,eval (Expr.Call (.Name "reversed" p2) [xa] [] pos2) X.env) :: backTo pos [])) _ _ s;refine aaC ?_;have Dv:PA X [xa] _:=jq (ha X g) lU (by show _=_;rw[hst];rfl);refine Call_ (jN I (g.gl hg) (g.bl _ hb) (show bootBuiltins ("reversed":Str)=some (.type "reversed")by decide) (aaE (bI (Dv pos2 i s σ H (λM H1=>∃y u,M=[u]/\RV X.K H1 y x u/\HR X.K H1 y L/\Fm X.K r y H H1) I ⟨r,W,h,x,L,Z,hr,e2,λu H1 y C l f1=>⟨y,u,rfl,C,l,f1⟩⟩) λus s1 z=>?_) (hst _) rfl));obtain⟨M,H1,I1,rv,y,u,rfl,C,l,f1⟩:=z;cases x<;>simp only[Ev.Fq,Option.map,reduceCtorEq]at c
 rename_i ds
 exists c
 obtain⟨t,ws,rfl,z,w⟩:=C.shape;cases rv with
 |cons ra rb=>
 cases rb;cases ra;obtain⟨f,pv,pt,hz⟩:=I1.tuple z;have j:f.toArray.size<=sizeLine:=by rw[ZC,<-pv.length];exact hz
 have hf:(f.toArray.size:Int)<2 ^ 63:=by rw[aaW]at j;lia
 refine Rv.FY pt hf ?_;refine aaY ?_;have I2:Inv X i σ H1 { s1 with heap:=s1.heap.push (Rv.pD t ((f.toArray.size:Int) - 1)),toks:=s1.toks+1+1 }:=I1.kept λb o e=>ZD _ e;have F:t≠s1.heap.objs.size:=by obtain⟨o,ho,_⟩:=pt;exact ZR (ZI ho)
 refine Rv.vO (I1.ok.hd g.calm) ⟨_,ZM _ rfl,rfl,rfl⟩ (Rv.pF pt λo e=>ZD _ e) F j λY tk A c' hk J B=>?_;obtain⟨hz2,q2⟩:=(q.later f1).lst e w.reverse l;have P:s1.heap.objs.size<=(s1.heap.push (Rv.pD t ((f.toArray.size:Int) - 1))).objs.size:=by rw[size_push'];exact acO _
 refine⟨.ref _,_,I1.laid (t':=tk) (o:=.lst ws.reverse) (λb u e=>hk b u (ZR (ZI e)) (ZD _ e)) P ?_,rfl,q2 _ (I1.hok.fresh P)⟩;exact⟨by simpa using hz,A.toList,c',Gb pv B,by simpa using J⟩
end
theorem insI_perm(x:Int):∀l,(Ev.insI x l).Perm (x :: l)
 |[]=>.refl _
 |y :: l=>by
  unfold Ev.insI;split
  .exact .refl _
  .exact((insI_perm x l).cons y).trans (.swap x y l)
theorem sortI_perm:∀l,(Ev.sortI l).Perm l
 |[]=>.refl _
 |x :: l=>(insI_perm x _).trans ((sortI_perm l).cons x)
theorem qe(x:Int):∀{l},l.Pairwise (·<=·)->(Ev.insI x l).Pairwise (·<=·)
 |[],_=>List.pairwise_singleton _ _
 |y :: l,h=>by
  unfold Ev.insI;obtain⟨b,c⟩:=List.pairwise_cons.mp h;split
  .rename_i a;exact List.pairwise_cons.mpr ⟨λz hz=>by
    rcases qE hz with rfl|hz
    .exact a
    .exact Int.le_trans a (b z hz),h⟩
  .rename_i a;refine List.pairwise_cons.mpr ⟨λz hz=>?_,qe x c⟩;rcases qE ((insI_perm x l).mem_iff.mp hz)with rfl|hz
   .lia
   .exact b z hz
theorem om:∀l,(Ev.sortI l).Pairwise (·<=·)
 |[]=>.nil
 |x :: l=>qe x (om l)
def rM{l m:Kk}(h:m.Perm l)(s:m.Pairwise (·<=·)):m=Ev.sortI l:=
 (h.trans (sortI_perm l).symm).eq_of_pairwise (λa b _ _ c d=>Int.le_antisymm c d) s (om l)
theorem uc:∀{us:W1}{is:Kk},IntsAre us is->Vals (is.map V.int) us
 |_,_,.nil=>.nil
 |_,_,.cons _ _ h=>.cons ⟨_,rfl⟩ (uc h)
theorem aT.Gd{K:Ψ}:∀{ss:Kk},aT K H r (ss.map D.int) (ss.map V.int)
 |[]=>.nil
 |l :: ss=>.cons rfl aT.Gd
def xC{kvs:List (Key×Value)}{ns:Kk}(z:kvs.map (·.1)=ns.map Sum.inl){P:Program}{w:World}:∀{vs:W1},vs.length=kvs.length->(∀(j:Nat) v,vs[j]?=some v->∃k x,kvs[j]?=some (k,x)/\(bq P w).is k v=true)->IntsAre vs ns:=by
 induction kvs generalizing ns with
 |nil=>
  intro vs a _;have:ns=[]:=by cases ns with|nil=>rfl|cons n ns=>simp at z
  subst this;rw[List.eq_nil_of_length_eq_zero a];exact .nil
 |cons p kvs f=>
  intro vs a c;cases ns with
  |nil=>simp at z
  |cons n ns=>
   simp only[WL,List.cons.injEq]at z;cases vs with
   |nil=>simp at a
   |cons v vs=>
    obtain⟨k,x,d,g⟩:=c 0 v rfl;simp at d;subst d;have b:k=Sum.inl n:=z.1;subst b;have e:Value.isInt n v=true:=g;obtain⟨t,rfl⟩:∃t,v=.int n t:=by
     cases v<;>simp[Value.isInt]at e
     exact⟨_,by rw[e]⟩
    refine .cons n t (f z.2 (by simpa using a) λj u h=>?_);obtain⟨i,l,o,q⟩:=c (j+1) u (by simpa using h);exact⟨i,l,by simpa using o,q⟩
def za{prog:Program}{w:World}{A:Around}{E:Φ}{s:Shared}{d:Addr}{kvs:List (Key×Value)}{ns:Kk}{Q:Φ}(hd:s.heap.DictOf (bq prog w) d kvs)(lo:(d==sysModules)=false)(hh:A.handled=none)(hk:kvs.map (·.1)=ns.map Sum.inl)(Z:kvs.length<64)(h:∀(h1 h2:Heap) (tk:Nat) (out:Array Value) (I:Kk) (e:Nat),(∀b o,s.heap.get? b=some o->h1.get? b=some o)->(∀b o,h1.get? b=some o->h2.get? b=some o)->h2.get? h1.objs.size=some (seqObj "list" out e)->IntsAre out.toList I->I.Perm ns->I.Pairwise (·<=·)->Q (.ref h1.objs.size) { s with heap:=h2,toks:=tk }):
  wpAny (model prog w) A (call (.builtin "sorted") [.ref d]) Q E s:=by
 obtain⟨ep,g⟩:=hd.dictAt;have f:kvs.length<=sizeLine:=ZL (ab2 Z) (by decide);refine Calls.call_function_entry kind_sorted plain_sorted entry_sorted (args_sorted1 _) ?_;unfold Builtin.«sorted»;refine gH (m:=checkCount "sorted" 1 1 _) (Ws ?_);refine gH (W.kdu_collect (A:=A.in1) (W.kdl_dict (knd:=bq prog w) (kvs:=kvs) (ep:=ep) lo) hh g f λi tk a l c=>?_);have p:a.toList.length=kvs.length:=by rw[aaP];exact c.1
 refine gH (wpAny_newList ?_ (by rw[p];exact f));have y:IntsAre a.toList ns:=xC hk p λj v e=>c.2 j v (by rw[<-acr];exact e);have q:(i.push (seqObj "list" a.toList.toArray 0)).get? i.objs.size=some (seqObj "list" a.toList.toArray 0):=ZM _ rfl;refine gH (aan (aax slot_list_sort ⟨_,q,rfl⟩ entry_list_sort (list_sort_tree q y (by rw[p];exact Z) λout I z B C=>⟨_,rfl,?_⟩) (args_list_sort _)));obtain⟨e,F⟩:=sortedHeap_at (out:=out) q;exact Ws ⟨_,rfl,h i _ tk out I e l (λb o r=>by
  have lt:=ZI r;rw[sortedHeap_old (ZR lt) (by rw[size_push'];exact Nat.lt_succ_of_lt lt),Heap.get?_push_ne _ _ _ (ZR lt)];exact r) F z B C⟩
theorem zW:∀{kvs:Θ}{vs:List (Key×Value)},KV (dQ kvs) vs->vs.map (·.1)=(kvs.map (·.1)).map Sum.inl/\vs.length=kvs.length
 |[],vs,h=>by cases h;exact⟨rfl,rfl⟩
 |p :: kvs,vs,h=>by
  cases h with
  |cons a b=>
   obtain⟨c,d⟩:=zW b;exact⟨by simp only[WL,c,<-a.1],by simp[d]⟩
def Ge(hc:X.calm=true):gn X (.builtin "sorted") (uW X.K (Ev.cQ .mS)):=by
 intro b s σ H xs us Q I r q;obtain⟨rr,h,l,d,h',g,o,e,q⟩:=q
 match l,e with
 |[x],e=>
  delta Ev.cQ at e;dsimp only at e
  cases hx:Ev.eW h x with
  |none=>rw[hx]at e;exists e
  |some c=>
   rw[hx]at e;dsimp only at e;by_cases a:c.length<64
   .rw[gV a]at e;obtain⟨n,rfl,z⟩:=mU hx;obtain⟨p,y,A,z3⟩:=g.dct z;obtain⟨v,w,rfl,⟨p',rfl,i⟩,rfl⟩:=o;rw[y]at i;exists i;obtain⟨u,rfl,B⟩:=vals1 r;cases B;obtain⟨_,C,vs,F,G⟩:=vS I.hok A;obtain⟨k1,k2⟩:=zW F;refine za G C (I.ok.hd hc) k1 (by rw[k2];exact a) λj h2 tk out J L M N P W Y Z=>?_;have hq:=rM Y Z;subst hq;obtain⟨f,q2⟩:=q.lst e aT.Gd g;have I1:Inv X b σ H { s with heap:=j,toks:=tk }:=I.kept M;refine⟨.ref j.objs.size,_,I1.laid N (Zw _) ?_,rfl,q2 _ (I1.hok.fresh (Zw _))⟩;exact⟨f,out.toList,L,uc W,by simpa[seqObj]using P⟩
   .rw[Yl a]at e;exists e
theorem xD:∀{ds:T1}{k:Int}{i:Nat}{d:D},(Ev.dj k ds)[i]?=some d->∃x,ds[i]?=some x/\d=.tup [.int (k+i),x]
 |[],_,_,_,e=>by simp[Ev.dj]at e
 |x :: ds,k,0,d,e=>by simp[Ev.dj]at e;exact⟨x,by simp,by simp[e]⟩
 |x :: ds,k,i+1,d,e=>by
  simp only[Ev.dj,List.getElem?_cons_succ]at e;obtain⟨y,a,b⟩:=xD e;refine⟨y,by simpa using a,?_⟩;rw[b];have:k+1+i=k+((i+1:Nat)):=by lia
  rw[this]
theorem xE:∀(ds:T1) (k:Int),(Ev.dj k ds).length=ds.length
 |[],_=>rfl
 |_ :: ds,k=>by simp[Ev.dj,xE ds]
section
variable{prog:Program}{w:World}{A:Around}
def vv(z:A.handled=none)(it:Addr)(x:Str)(t:Tok):Draws prog w A it [it] x.cps.size (λi v=>∃c u,x.cps[i]?=some c/\v=.str ⟨#[c]⟩ u) (λi h=>h.IsStrIter it (strIterType x) x t i):=by
 unfold strIterType;split
 .exact Draws.strAscii z it x t
 .exact Draws.strWide z it x t
end
def Ob(z:Str):L2.It:=
  ⟨λi _=>i<z.cps.size,
   λi H x H'=>∃p c,H p=none/\x=.ref p/\H'=upd H p (.tup [.int i,.str ⟨#[c]⟩])/\z.cps[i]?=some c,
   λi _=>z.cps.size<=i⟩
def BC{P:Program}{w:World}{K:Ψ}{elts:Kj}{x1}{pos:Pos}{z:Str}{t:Tok}{e it:Addr}(hne:e≠it):
  Turn P w K (.Tuple elts x1 pos) (Ob z) [e,it] e (λi h=>(∃old,IsEnum h e it i old)/\h.IsStrIter it (strIterType z) z t i/\i<=z.cps.size) where
 mem:=by simp
 obj:=λi h g b a=>by
  obtain⟨⟨old,s1⟩,s2,_⟩:=g;simp only[abN,List.mem_nil_iff,or_false]at a;rcases a with rfl|rfl
  .exact⟨_,s1,λv z=>by have Y:Data.fields _=Data.cell v:=z;cases Y⟩
  .obtain⟨o,e,c,d⟩:=s2;exact⟨o,e,λv z=>by rw[d]at z;cases z⟩
 keep:=λi h y g k=>by
  obtain⟨⟨old,s1⟩,⟨o,B,r⟩,s3⟩:=g;exact⟨⟨old,k e (by simp) _ s1⟩,⟨o,k it (by simp) o B,r⟩,s3⟩
 item:=by
  intro X j C F G i f s σ H E I hf g hg;subst j C F;obtain⟨⟨old,s1⟩,s2,s3⟩:=g;have Dr:=vv (prog:=X.prog) (w:=X.w) (A:=X.A.in1) (I.ok.hd G) it z t;refine wpAny_pyNext_enum_itemD Dr s1 s2 hg hne (by simpa using hne) λu y tk j Z a2 a3 a4 J=>?_;obtain⟨c,l,L,rfl⟩:=j;refine⟨_,rfl,wpAny_letOwnedTupleGo_enum (s:={ s with heap:=y,toks:=tk+1 }) Z λM b1 N=>?_⟩;have lt:∀{c o},s.heap.get? c=some o->c≠s.heap.objs.size:=λe=>ZR (ZI e);have q:H s.heap.objs.size=none:=I.hok.fresh (Zw _);have I0:Inv X f σ (upd H s.heap.objs.size (.tup [.int i,.str ⟨#[c]⟩])) { s with heap:=s.heap.push { cls:=.type "tuple",data:=.seq #[.int i tk,.str ⟨#[c]⟩ l]},toks:=tk+1 }:=
   I.laid (λb o e=>ZD _ e) (Zw _) ⟨by show 2<=sizeLine;decide,[.int i tk,.str ⟨#[c]⟩ l],.cons ⟨_,rfl⟩ (.cons ⟨_,rfl⟩ .nil),⟨_,ZM _ rfl,rfl,_,rfl⟩⟩
  have ne:∀b∈[e,it],b≠s.heap.objs.size:=λb a=>by
   simp only[abN,List.mem_nil_iff,or_false]at a;rcases a with rfl|rfl
   .exact lt s1
   .obtain⟨o,e,_⟩:=s2;exact lt e
  have Q:∀b∈[e,it],gS X f (upd H s.heap.objs.size (.tup [.int i,.str ⟨#[c]⟩])) b:=λb a=>⟨by rw[aV (ne b a)];exact(hf b a).1,(hf b a).2⟩
  have I1:Inv X f σ (upd H s.heap.objs.size (.tup [.int i,.str ⟨#[c]⟩])) { s with heap:=M,toks:=tk+1 }:=by
   refine zV (s:={ s with heap:=s.heap.push { cls:=.type "tuple",data:=.seq #[.int i tk,.str ⟨#[c]⟩ l]},toks:=tk+1 }) (ch:=[e,it]) I0 (λb o a e=>?_) Q;simp only[abN,List.mem_nil_iff,or_false,not_or]at a;refine N.extBut _ _ a.1 ?_;by_cases q:b=s.heap.objs.size
   .subst q;have p:(s.heap.push { cls:=.type "tuple",data:=.seq #[.int i tk,.str ⟨#[c]⟩ l]}).get? s.heap.objs.size=some o:=e;rw[ZM _ rfl]at p;cases p;exact a3
   .refine J b o a.1 a.2 ?_;have p:(s.heap.push { cls:=.type "tuple",data:=.seq #[.int i tk,.str ⟨#[c]⟩ l]}).get? b=some o:=e;rw[Heap.get?_push_ne _ _ _ q]at p;exact p
  refine⟨.ref s.heap.objs.size,_,I1,rfl,⟨s.heap.objs.size,c,q,rfl,rfl,L⟩,?_,λb a=>(Q b a).1⟩;obtain⟨o,B,r⟩:=a2;exact⟨⟨_,by simpa using b1⟩,⟨o,N.extBut _ _ (aav hne) B,r⟩,hg⟩
 done:=by
  intro X j C F G i f s σ H E I hf g hg;subst j C F;obtain⟨⟨old,s1⟩,s2,s3⟩:=g;have hi:i=z.cps.size:=Nat.le_antisymm s3 hg;subst hi;have Dr:=vv (prog:=X.prog) (w:=X.w) (A:=X.A.in1) (I.ok.hd G) it z t;refine wpAny_pyNext_enum_endD Dr s1 s2 λy J=>⟨rfl,?_⟩
  refine zV (ch:=[e,it]) (t':=s.toks) I (λb o a e=>?_) hf;simp only[abN,List.mem_nil_iff,or_false,not_or]at a;exact J b o a.2 e
 self:=λ_ _ _ _ _ g h=>by obtain⟨⟨old,s1⟩,s2⟩:=g;exact wpAny_pyIter_enum s1 h
def Oc{a:Ξ}{i:Nat}{x:D}(h:(a.map λc=>D.str [c])[i]?=some x):∃c,a[i]?=some c/\x=.str [c]:=by
 rw[aaa]at h;obtain⟨c,b,d⟩:=kA h;exact⟨c,b,d.symm⟩
def R0{K:Ψ}{H:Hp}{r:Y2}{c:Nat}:RV K H r (.str [c]) (.str ⟨#[c]⟩):=⟨rfl,by show 1<=sizeLine;decide⟩
def Gf{K:Ψ}{r:Y2}{H:Hp}{a:Ξ}:qx K r H (Ev.dj 0 (a.map λc=>.str [c]),[]) (Ob (bF a)):=λi H1 j z f f1 A=>by
 refine⟨λd e=>?_,λl=>?_⟩
 .obtain⟨x,k1,rfl⟩:=xD e;obtain⟨c,k2,rfl⟩:=Oc k1;have g:i<a.length:=(gL k2).1;refine⟨by show i<a.toArray.size;simpa using g,λX H2 y=>?_⟩;obtain⟨p,o,h,rfl,rfl,q⟩:=y;have TN:a[i]?=some o:=by simpa[bF]using q
  rw[k2]at TN;cases TN;exact⟨j,⟨p,[.int i,.str ⟨#[c]⟩],rfl,.of e8,.cons (by simp[RV]) (.cons R0 .nil)⟩,f.tup h,.tup h⟩
 .have b:(Ev.dj 0 (a.map λc=>D.str [c])).length<=i:=l;rw[xE,ZF]at b;show a.toArray.size<=i;simpa using b
section
variable{G:Tb}{n:Nat}{sc:Scope}{N:Y1}{df:Bool}{m:Ξ}{a b:E}{xa:Expr}{pos:Pos}
def Gg{elts:Kj}{x1}{tpos p:Pos}(ha:JE G n sc N df m a xa)(hg:sc.names.lookup ("enumerate":Str)=some .globalImplicit:=by rfl)(zX:("enumerate":Str)∈G.bl:=by decide)(hst:∀env:Env,starEach [xa] env=[(false,eval xa env)]:=by intro _;rfl):
  JI G n sc N df m (.lE a) (.Tuple elts x1 tpos) (.Call (.Name "enumerate" p) [xa] [] pos):=λX g=>by
 intro c s σ H Rr I q;obtain⟨r,B,h,src,l,C,F,e,q⟩:=q;rw[Ev.cL]at e;replace e:=Ev.ai e;obtain⟨x,h1,J,e⟩:=e;replace e:=Ev.aJ e;obtain⟨e,L⟩:=e;subst L;have Dv:PA X [xa] _:=jq (ha X g) lU (by show _=_;rw[hst];rfl);refine Call_ (jN I (g.gl hg) (g.bl _ zX) (show bootBuiltins ("enumerate":Str)=some (.type "enumerate")by decide) (aaE (bI (Dv pos c s σ H (λo H1=>∃d u,o=[u]/\RV X.K H1 d x u/\HR X.K H1 d l/\Fm X.K r d H H1) I ⟨r,B,h,x,l,C,F,J,λu H1 d j f f1=>⟨d,u,rfl,j,f,f1⟩⟩) λus s1 z=>?_) (hst _) rfl));obtain⟨o,H1,I1,rv,d,u,rfl,j,f,f1⟩:=z;simp only[Uw]at e;obtain⟨M,k1,rfl⟩:=e;cases x<;>simp only[Ev.Fp,reduceCtorEq]at k1
 rename_i a;cases k1;simp only[RV]at j;obtain⟨rfl,hl⟩:=j;cases rv with
 |cons P Q=>
 cases Q;obtain⟨t,rfl⟩:=P;refine call_enumerate_str λW y Y c3 Z=>?_;have I2:Inv X c σ H1 { s1 with heap:=W,toks:=s1.toks }:=I1.kept Z;have A:∀b∈[s1.heap.objs.size+1,s1.heap.objs.size],s1.heap.objs.size<=b:=λb i=>by
  simp only[abN,List.mem_nil_iff,or_false]at i;rcases i with rfl|rfl
  .exact acO _
  .exact Zw _
 exact wpAny_pyIter_enum y ⟨_,[s1.heap.objs.size+1,s1.heap.objs.size],_,_,H1,rfl,I2,BC (Nat.succ_ne_self _),⟨⟨_,y⟩,Y,aas _⟩,λb i=>I1.A3 (A b i) (I1.hok.fresh (A b i)),q _ H1 d f f1 Gf⟩
end
theorem aT.ofInts{K:Ψ}:∀ns:Kk,aT K H r (ns.map D.int) (ns.map V.int)
 |[]=>.nil
 |_ :: l=>.cons rfl (aT.ofInts l)
def Od{K:Ψ}(z:tS H)(I:fJ K H a vs):Bk K H a vs:=by
 rcases I with h|h
 .rcases h with h|⟨o,h⟩
  .rcases z a with q|⟨o,xs,q⟩
   .rw[q]at h;exists h
   .rw[q]at h;cases h
  .exact .inl ⟨o,h⟩
 .exact .inr h
def R1{K:Ψ}{F:List Ev.Fn}{w n f:Nat}{H:Hp}{a:Addr}{ns:Kk}(z:tS H)(I:fJ K H a (ns.map V.int)){h':Hh}(e:Ev.run F w n f [.ref 0] [.bQ (ns.map D.int)]=.ok (.bl true) h'):
  ny K F w n f [.ref a] H (λv _=>v=.bl true) λ_ _ _=>False:=by
 refine⟨[a],[.bQ (ns.map D.int)],[.ref 0],.bl true,h',.cons (show RV K H [a] (.ref 0) (.ref a)from ⟨a,rfl,rfl⟩) .nil,⟨rfl,λk o c=>?_,λk l b x y _ _ c _=>?_
  ,λk l b x y _ _ c _=>by cases k with|zero=>simp at c|succ k=>simp at c
  ⟩,e,λv H' g d _ _=>d⟩
 .cases k with
  |zero=>
   simp at c;subst c;exact⟨a,rfl,_,Od z I,aT.ofInts ns⟩
  |succ k=>simp at c
 .cases k with
  |zero=>simp at c
  |succ k=>simp at c
def Kw{l:W.OpenLaw}{K:Params->Ψ}(hn:l.most=some 63)(I:d.params.defaults=[])(hr:fL n callerA)(hY:∀(w:World) (h:Heap),YP w h->(K w.params).In h)(good:∀ns:Kk,ns.length<=63->∃h',Ev.run F wh n f [.ref 0] [.bQ (ns.map D.int)]=.ok (.bl true) h')(Fo:∀(w:World) (mg:Kx) (Z:Addr) (h:Heap),(K w.params).In h->h.Ns mainGlobals mg->mg d.name=some (.ref Z)->
   ∃fd:FuncData,(∀(s:Shared) (u:Value),BindsTo s fd ⟨[u],[]⟩ [(x,u)])/\∀base:Heap,(K w.params).In base->base.Ns mainGlobals mg->fc l.prog w (K w.params) mg base lW n Z fd [x] (ny (K w.params) F wh n f)):
  W.WalkO q loose XP YP l.row.toRowW d [] (λf vs=>PySem.call f vs):=
 L2.Fc hn (by decide) I hr hY Fo (λK H a ns b c g=>by
  obtain⟨h',e⟩:=good ns b;exact R1 c g e) λ_ _ _ _ z=>z
end Sm
namespace Sm
open PySem PySem.Spec PyProof.Rows L2
open Ev (D O Hh Fr R aE E Es Eo It T S Ss Fl Src bA br TY BI ME)
section
variable{G:Tb}{n:Nat}{sc:Scope}{N:Y1}{df:Bool}{m:Ξ}{a b:E}{xa xb:Expr}{pos:Pos}
def hasB(N:Y1)(m:Ξ)(x:Str)(i:Nat):Bool:=(List.range N.length).any λj=>m[j]?==some i&&N[j]?==some x
def hasB.of(h:hasB N m x i=true):∃j:Nat,m[j]?=some i/\N[j]?=some x:=by
 obtain⟨j,_,q⟩:=List.any_eq_true.mp h;rw[yK]at q;exact⟨j,by simpa using q.1,by simpa using q.2⟩
def vB(sc:Scope)(N:Y1)(m:Ξ)(x:Str)(i:Nat):Bool:=hasB N m x i&&(sc.names.lookup x==some .local ||sc.names.lookup x==some .cell ||sc.names.lookup x==some .free)&&!(x==("__debug__":Str))&&!(x==("__classdict__":Str))
def jv(h:vB sc N m x i=true):JE G n sc N df m (.v i) (.Name x pos):=by
 unfold vB at h;simp only[yK,Z8,aaf]at h;obtain⟨⟨⟨d,c⟩,e⟩,f⟩:=h;obtain⟨j,g,l⟩:=hasB.of d;exact VX j i g l (by rcases c with (c|c)|c;exact .inl (by simpa using c);exact .inr (.inl (by simpa using c));exact .inr (.inr (by simpa using c))) e f
def gB(sc:Scope)(N:Y1)(df:Bool)(m:Ξ)(x:Str)(i:Nat):Bool:=hasB N m x i&&(sc.names.lookup x==some .local || (df&&sc.names.lookup x==some .cell))&&decide m.Nodup&&decide N.Nodup
theorem gB.of(h:gB sc N df m x i=true):∃j:Nat,m[j]?=some i/\N[j]?=some x/\(sc.names.lookup x=some .local\/(df=true/\sc.names.lookup x=some .cell))/\m.Nodup/\N.Nodup:=by
 unfold gB at h;simp only[yK,aaf]at h;obtain⟨⟨⟨d,c⟩,e⟩,f⟩:=h;obtain⟨j,g,l⟩:=hasB.of d;exact⟨j,g,l,by rcases c with c|⟨c,o⟩;exact .inl (by simpa using c);exact .inr ⟨c,by simpa using o⟩,ZU e,ZU f⟩
def Xl(h:gB sc N df m x i=true):JG G n sc N df m (.one i) (.Name x pos):=by
 obtain⟨j,c,d,e,f,g⟩:=gB.of h;exact Nk j i f g c d e
def Xm(h:gB sc N df m x i=true)(z:uX G n sc N df m l xs):uX G n sc N df m (i :: l) (.Name x pos :: xs):=by
 obtain⟨j,c,d,e,f,g⟩:=gB.of h;exact Fx j i f g z c d e
def V6(h:gB sc N df m x i=true)(z:JE G n sc N df m a xa)(I:∀env:Env,swapsWith xa (some (.Name x pos')) pos.line env=pure false:=by intro _;rfl):JS G n sc N df m (.set i a) (.Assign [.Name x pos'] xa pos):=by
 obtain⟨j,c,d,e,f,g⟩:=gB.of h;exact Nl j i f g z I c d e
def zY(sc:Scope)(x:Str):Bool:=sc.names.lookup x==some .globalImplicit&&!(x==("__debug__":Str))
def TQ{f:Nat}{i:FI}{es:Es}{x:Str}{z:Expr}{xs:Kj}{p:Pos}(h:zY sc x=true)(hf:G.fi[f]?=some i)(hx:i.name=x)(hs:JA G n sc N df m es (z :: xs))(I:∀env:Env,q5 z xs env:=by intro _;rfl)(Z:∀env:Env,q7 pos xs env:=by intro _;rfl):
  JE G n sc N df m (.cl f es) (.Call (.Name x p) (z :: xs) [] pos):=by
 subst hx;unfold zY at h;simp only[yK,Z8]at h;exact RN hf hs (by simpa using h.1) h.2 I Z
def Xn:Expr->Y1
 |.Name x _=>[x]
 |.Tuple xs _ _=>xs.filterMap λy=>match y with|.Name x _=>some x|_=>none
 |_=>[]
def TR(N:Y1)(m:Ξ)(scope:Scope):List (Str×Nat):=(N.zip m).filter λp=>scope.names.contains (p.1,NameKind.free)
def cN(N:Y1)(m:Ξ)(scope:Scope)(tg:Expr):Y1:=Xn tg++(TR N m scope).map (·.1)
def cM(N:Y1)(m:Ξ)(scope:Scope)(t:T):Ξ:=Ev.slots t++(TR N m scope).map (·.2)
def R3{cond:Eo}(z:xg sc N m scope t (cN N m scope tg) (cM N m scope t)=true)(I:Nz sc scope=true)(hi:JI G n sc N df m it tg xi)(Z:JG G n (iZ sc scope) (cN N m scope tg) false (cM N m scope t) t tg)(hc:JC G n (iZ sc scope) (cN N m scope tg) false (cM N m scope t) cond ifs)(he:JE G n (iZ sc scope) (cN N m scope tg) false (cM N m scope t) elt xe)(hf:∀(env:Env) x,foldedSetIterable xi env x=pure x:=by intro _ _;rfl):JE G n sc N df m (.comp elt t it cond) (.ListComp xe [⟨tg,xi,ifs,0⟩] scope pos):=
 Kh hi Z hc he (namesOk.of z) (nY.of I) hf
def V7{rest:Kj}(z:JT G n sc N df m a xa)(I:JW G n sc N df m b (.BoolOp .And (xb :: rest) pos)):JT G n sc N df m (.an a b) (.BoolOp .And (xa :: xb :: rest) pos):=M8 (HS z I)
def V8{rest:Kj}(z:JT G n sc N df m a xa)(I:JW G n sc N df m b (.BoolOp .Or (xb :: rest) pos)):JT G n sc N df m (.orr a b) (.BoolOp .Or (xa :: xb :: rest) pos):=M8 (CY z I)
def allB(G:Tb)(n:Nat):List (Ss×Stmt×Y1)->Prop
 |[]=>True
 |p :: r=>kE G n (aI p.2.1) p.2.2 true (List.range p.2.2.length) p.1 (eO p.2.1)/\allB G n r
theorem allB.get:∀{l:List (Ss×Stmt×Y1)}{k:Nat}{p:Ss×Stmt×Y1},allB G n l->l[k]?=some p->kE G n (aI p.2.1) p.2.2 true (List.range p.2.2.length) p.1 (eO p.2.1)
 |[],_,_,_,e=>nomatch e
 |_ :: _,0,_,h,e=>by exists e;exact h.1
 |_ :: r,k+1,p,h,e=>allB.get h.2 (by simpa using e)
end
open PySem.SeqAt
end Sm
namespace Sm
open PySem PySem.Spec PyProof.Rows L2
open Ev (D O Hh Fr R aE E Es Eo It T S Ss Fl Src bA br TY BI ME)
end Sm
namespace Sm
open PySem PySem.Spec PyProof.Rows
def Rs(xs:Array Nat):Prop:=xs.toList.Pairwise (· < ·)
def Rs.lt{xs:Array Nat}(h:Rs xs){i j:Nat}(a:i<j)(b:j<xs.size):xs.getD i 0<xs.getD j 0:=by
 have c:i<xs.size:=Nat.lt_trans a b;have d:xs.getD i 0=xs.toList[i]'(by simpa using c):=by simp[Array.getD,c]
 have e:xs.getD j 0=xs.toList[j]'(by simpa using b):=by simp[Array.getD,b]
 rw[d,e];exact(List.pairwise_iff_getElem.mp h) i j _ _ a
theorem qC{xs:Array Nat}{j:Nat}(h:Rs xs):∀(f lo hi:Nat),lo<=hi->hi<=xs.size->hi - lo<=f->(∀i,i<lo->xs.getD i 0<j)->(∀i,hi<=i->i<xs.size->j<=xs.getD i 0)->
  SetTable.below.go xs j f lo hi<=xs.size/\(∀i,i<SetTable.below.go xs j f lo hi->xs.getD i 0<j)/\∀i,SetTable.below.go xs j f lo hi<=i->i<xs.size->j<=xs.getD i 0
 |0,lo,hi,a,b,c,d,e=>by
  have:lo=hi:=by omega
  subst this;exact⟨b,d,e⟩
 |f+1,lo,hi,a,b,c,d,e=>by
  unfold SetTable.below.go;by_cases q:lo<hi
  .rw[gV q];have l:(lo+hi) / 2<xs.size:=by omega
   have o:xs.getD ((lo+hi) / 2) j=xs.getD ((lo+hi) / 2) 0:=by simp[Array.getD,l]
   dsimp only;rw[o];by_cases z:xs.getD ((lo+hi) / 2) 0<j
   .rw[gV z];refine qC h f _ hi (by omega) b (by omega) (λi g=>?_) e;by_cases y:i=(lo+hi) / 2
    .rw[y];exact z
    .exact Nat.lt_trans (h.lt (show i<(lo+hi) / 2 by omega) l) z
   .rw[Yl z];refine qC h f lo _ (by omega) (by omega) (by omega) d (λi g p=>?_);by_cases y:i=(lo+hi) / 2
    .rw[y];omega
    .have:=h.lt (show(lo+hi) / 2<i by omega) p;omega
  .rw[Yl q];have:lo=hi:=by omega
   subst this;exact⟨b,d,e⟩
def qD{xs:Array Nat}{j:Nat}(h:Rs xs):SetTable.below xs j<=xs.size/\(∀i,i<SetTable.below xs j->xs.getD i 0<j)/\∀i,SetTable.below xs j<=i->i<xs.size->j<=xs.getD i 0:=
 qC h xs.size 0 xs.size (aas _) (Zw _) (by omega) (λ_ q=>absurd q (Nat.not_lt_zero _)) (λi a b=>absurd b (by omega))
def zZ{xs:Array Nat}{i:Nat}(h:i<xs.size):xs[i]?=some (xs.getD i 0):=by simp[Array.getD,h]
def below_at{xs:Array Nat}(h:Rs xs){i:Nat}(hi:i<xs.size){j:Nat}(a:j<=xs.getD i 0)(b:∀k,k<i->xs.getD k 0<j):SetTable.below xs j=i:=by
 obtain⟨c,d,e⟩:=qD (j:=j) h;rcases Nat.lt_trichotomy (SetTable.below xs j) i with q|q|q
 .have:=e _ (Zw _) (by omega);have:=b _ q;omega
 .exact q
 .have:=d _ q;omega
def Dw{xs:Array Nat}(h:Rs xs){j:Nat}(b:∀k,k<xs.size->xs.getD k 0<j):SetTable.below xs j=xs.size:=by
 obtain⟨c,d,e⟩:=qD (j:=j) h;rcases Nat.lt_or_ge (SetTable.below xs j) xs.size with q|q
 .have:=e _ (Zw _) q;have:=b _ q;omega
 .omega
def Dy{xs:Array Nat}(h:Rs xs){j:Nat}(n:xs[SetTable.below xs j]?≠some j):Rs (SetTable.insertAt xs (SetTable.below xs j) j):=by
 obtain⟨c,d,e⟩:=qD (j:=j) h;unfold Rs;rw[SetTable.toList_insertAt,List.pairwise_append];have p:∀x∈xs.toList.drop (SetTable.below xs j),j<x:=by
  intro x f;obtain⟨i,g,rfl⟩:=List.mem_iff_getElem.mp f;rw[Z4,aaP]at g;rw[List.getElem_drop];have hz:SetTable.below xs j+i<xs.size:=by omega
  have l:xs.toList[SetTable.below xs j+i]'(by simpa using hz)=xs.getD (SetTable.below xs j+i) 0:=by simp[Array.getD,hz]
  rw[l];have A:=e _ (Zw _) (show SetTable.below xs j<xs.size by omega);have B:xs.getD (SetTable.below xs j) 0≠j:=λq=>n (by rw[zZ (by omega),q]);by_cases z:i=0
  .subst z;rw[Nat.add_zero];omega
  .have:=h.lt (show SetTable.below xs j<SetTable.below xs j+i by omega) (by omega);omega
 have r:∀x∈xs.toList.take (SetTable.below xs j),x<j:=by
  intro x f;obtain⟨i,g,rfl⟩:=List.mem_iff_getElem.mp f;rw[Z9,aaP]at g;rw[List.getElem_take];have hz:i<xs.size:=by omega
  have l:xs.toList[i]'(by simpa using hz)=xs.getD i 0:=by simp[Array.getD,hz]
  rw[l];exact d i (by omega)
 refine⟨h.sublist (List.take_sublist _ _),List.pairwise_cons.mpr ⟨p,h.sublist (List.drop_sublist _ _)⟩,λa y b o=>?_⟩;rcases qE o with rfl|o
 .exact r a y
 .exact Nat.lt_trans (r a y) (p b o)
def Gh(n:Nat):Rs (Array.range n):=by
 unfold Rs;rw[Array.toList_range];exact List.pairwise_lt_range
def Tw(t:SetTable):Prop:=t.dummies = #[]/\Rs t.place
def Kz{j:Nat}:SetTable.has #[] j=false:=rfl
theorem xF{t:SetTable}(hd:t.dummies = #[]){f:Nat->Int}{h:Int}:∀(n:Nat) (p:SetTable.Probe) {j:Nat}{d:Option Nat},p.dummy=none->SetTable.probe.go t f h n p=some (.empty j d)->d=none/\t.place[SetTable.below t.place j]?≠some j
 |0,p,j,d,hp,e=>by cases e
 |n+1,p,j,d,hp,e=>by
  unfold SetTable.probe.go at e;cases hs:t.slot p.j with
  |empty=>
   rw[hs]at e;dsimp only at e;injection e with e
   injection e with e1 e2
   subst e1;refine⟨by rw[<-e2];exact hp,λq=>?_⟩;unfold SetTable.slot at hs;dsimp only at hs;rw[q]at hs;simp at hs
  |dummy=>
   unfold SetTable.slot at hs;dsimp only at hs;rw[hd]at hs;split at hs<;>cases hs
  |live i=>
   rw[hs]at e;dsimp only at e;split at e
   .cases e
   .refine xF hd n _ ?_ e;unfold SetTable.advance;split<;>exact hp
theorem Tw.standIn(t:SetTable)(n:Nat):Tw (t.standIn n):=⟨rfl,Gh n⟩
def Tw.lay{t:SetTable}(w:Tw t){es:Array (Int×Value)}{h:Int}{x:Value}:Tw (layNew t es h x).2.1/\(layNew t es h x).2.1.led=t.led:=by
 unfold layNew;cases hf:t.freeSlot h with
 |none=>exact⟨.standIn _ _,rfl⟩
 |some q=>
  obtain⟨slot,c⟩:=q;dsimp only;unfold SetTable.freeSlot at hf;split at hf
  .rename_i j d a;obtain⟨rfl,b⟩:=xF w.1 _ _ rfl a;cases hf;rw[show((none:Option Nat).getD j)=j from rfl];unfold SetTable.orStandIn;split
   .refine⟨⟨?_,Dy w.2 b⟩,rfl⟩;show(if SetTable.has t.dummies j then _ else t.dummies) = #[];rw[w.1,Kz];rfl
   .exact⟨.standIn _ _,rfl⟩
  .cases hf
def Tw.Gi{t:SetTable}(w:Tw t):Tw { t with plain:=false }:=w
def Tw.R4{t:SetTable}{es:Array (Int×Value)}{n:Nat}:Tw (relayAll t es n).2.1/\(relayAll t es n).2.1.led=t.led:=by
 unfold relayAll;cases hr:t.relaid (es.map (·.1)) n with
 |none=>exact⟨.standIn _ _,rfl⟩
 |some q=>
  obtain⟨g,o⟩:=q;dsimp only;split
  .unfold SetTable.relaid SetTable.laid at hr;obtain⟨h,_,e⟩:=Option.bind_eq_some_iff.mp hr;cases e;refine⟨⟨rfl,?_⟩,rfl⟩;show List.Pairwise _ (List.map _ _);rw[List.pairwise_map];refine List.Pairwise.filterMap _ (R:=(· < ·)) (λa b c x d y f=>?_) List.pairwise_lt_range;simp only[Uw]at d f;obtain⟨_,_,rfl⟩:=d;obtain⟨_,_,rfl⟩:=f;exact c
  .exact⟨.standIn _ _,rfl⟩
open L2
def dW:Value->Key
 |.int n _=>.inl n
 |.str x _=>.inr x
 |_=>.inl 0
inductive Ky:Value->Prop where
 |i (n:Int) (t:Tok):Ky (.int n t)
 |s (x:Str) (t:Tok):Ky (.str x t)
def Ky.is{v:Value}(h:Ky v):mJ (dW v) v=true:=by
 cases h
 .exact uG _ _
 .exact uH _ _
def Ky.sc{v:Value}(h:Ky v):v.scannable=true:=by cases h<;>rfl
inductive SW(P:Program)(w:World)(h:Heap)(a:Addr)(ks:List Key):Prop where
 |mk (es:Array (Int×Value)) (ep:Nat) (t:SetTable) (ob:h.get? a=some { cls:=.type "set",dict:=none,data:=.set es ep t })
   (el:∀e∈es.toList,e.1=(bq P w).hash (dW e.2)/\Ky e.2) (fit:t.fits es.size=true) (sm:es.size<scanBound) (tw:Tw t) (led:w.params.followText "set-order" = false->t.led=true)
   (pm:(es.toList.map λe=>dW e.2).Perm ks) (nd:ks.Nodup)
def R5{P:Program}{w:World}{es:List (Int×Value)}(el:∀e∈es,e.1=(bq P w).hash (dW e.2)/\Ky e.2):ElemsOf (bq P w) es:=λe a=>
 ⟨⟨_,(el e a).2.is,(el e a).1⟩,(el e a).2.sc⟩
def SW.at'{P:Program}{w:World}{h h':Heap}{a:Addr}{ks:List Key}(z:SW P w h a ks)(k:∀o,h.get? a=some o->h'.get? a=some o):SW P w h' a ks:=by
 obtain⟨b,c,t,d,x⟩:=z;exact⟨b,c,t,k _ d,‹_›,‹_›,‹_›,‹_›,‹_›,‹_›,‹_›⟩
def gy(ks:List Key)(k:Key):List Key:=open Classical in if k∈ks then ks else ks++[k]
def Gj(ks:List Key)(k:Key):(gy ks k).length<=ks.length+1:=by unfold gy;split<;>simp
def ud{ks:List Key}{k:Key}(h:ks.Nodup):(gy ks k).Nodup:=by
 unfold gy;split
 .exact h
 .rename_i q;exact List.nodup_append.mpr ⟨h,by simp,λa d b c=>by simp at c;subst c;intro e;subst e;exact q d⟩
section
variable{P:Program}{w:World}{A:Around}{E:Φ}{s:Shared}
def KA{a:Addr}{ks:List Key}{x:Value}{Q:Bool->Shared->Prop}(hx:Ky x)(S:SW P w s.heap a ks)(hr:ks.length+1<scanBound)(h:∀b h',Heap.SameBut a s.heap h'->SW P w h' a (gy ks (dW x))->Q b { s with heap:=h' }):wpAny (model P w) A (setAddHashed a x ((bq P w).hash (dW x))) Q E s:=by
 obtain⟨es,z,t,l,o,fit,J,K,p,B,nd⟩:=S;have y:=R5 o;have M:es.size=ks.length:=by rw[<-B.length_eq];simp
 unfold setAddHashed setAddHashedIn;refine aan (gH (wpAny_setState_of l rfl fit ?_));dsimp only;rw[byScan_of hx.sc J y,gV rfl];unfold setAddByScan;refine gH (gH (abV (gH (wpAny_setScan_of (knd:=bq P w) hx.is l rfl fit y ?_))));have g:dW x∈ks↔∃e∈es.toList,(bq P w).is (dW x) e.2=true:=by
  rw[<-B.mem_iff,List.mem_map];constructor
  .rintro⟨e,f,q⟩;exact⟨e,f,by rw[<-q];exact(o e f).2.is⟩
  .rintro⟨e,f,q⟩;exact⟨e,f,((bq P w).inj e.2 _ _ q (o e f).2.is).symm⟩
 cases hf:List.findIdx? (λe=>(bq P w).is (dW x) e.2) es.toList with
 |some j=>
  obtain⟨X,C,_⟩:=List.findIdx?_eq_some_iff_getElem.mp hf;have i:dW x∈ks:=g.mpr ⟨_,List.getElem_mem X,C⟩;have Y:=h false s.heap (Heap.SameBut.refl a s.heap) ⟨es,z,t,l,o,fit,J,K,p,by rw[gy,gV i];exact B,ud nd⟩;exact Ws (Ws Y)
 |none=>
  have i:dW x∉ks:=λq=>by
   obtain⟨e,f,C⟩:=g.mp q;have:=List.findIdx?_eq_none_iff.mp hf e f;rw[C]at this;cases this
  have Z:gy ks (dW x)=ks++[dW x]:=by rw[gy,Yl i]
  dsimp only;have N:∀(b:Bool) {s1:Shared} {Q1:Unit->Shared->Prop},Q1 () s1->wpAny (model P w) A (match b with|true=>rule "set.scan.the-table-gave-way" |false=>pure ()) Q1 E s1:=λb s1 Q1 q=>by
   cases b
   .exact Ws q
   .exact abV q
  obtain⟨Dz,Oe⟩:=Tw.lay K (es:=es) (h:=(bq P w).hash (dW x)) (x:=x);have Aa:=layNew_perm t es ((bq P w).hash (dW x)) x;have DA:=layNew_fits t es ((bq P w).hash (dW x)) x;generalize layNew t es ((bq P w).hash (dW x)) x=L at Dz Oe Aa DA ⊢
  obtain⟨c,F,wd,gv⟩:=L;dsimp only at Dz Oe Aa DA ⊢;rw[Array.toList_push]at Aa;have TU:∀e∈c.toList,e.1=(bq P w).hash (dW e.2)/\Ky e.2:=λe f=>by
   rcases kS (Aa.mem_iff.mp f)with q|q
   .exact o e q
   .rw[List.mem_singleton.mp q];exact⟨rfl,hx⟩
  have TV:(c.toList.map λe=>dW e.2).Perm (gy ks (dW x)):=by
   rw[Z];exact(Aa.map _).trans (by rw[ZQ];exact B.append_right _)
  have TX:c.size<scanBound:=by
   have:=Aa.length_eq;simp at this;omega
  have Of:w.params.followText "set-order" = false->F.led=true:=λq=>by rw[Oe];exact p q
  refine gH (N _ ?_);have fin:∀(d:SetTable),Tw d->d.led=F.led->d.fits c.size=true->wpAny (model P w) A (do
    storeSet a c d
    if (!wd&&d.tooFull)=true then do
      (match (relayAll d c (SetTable.grown c.size)).2.2 with|true=>rule "set.scan.the-table-gave-way" |false=>pure ():Sem Unit)
      storeSet a (relayAll d c (SetTable.grown c.size)).1 (relayAll d c (SetTable.grown c.size)).2.1
      pure (some true)
     else pure (some true):Sem (Option Bool)) (λr G=>∃h',r=some true/\G={ s with heap:=h' }/\Heap.SameBut a s.heap h'/\SW P w h' a (gy ks (dW x))) E s:=by
   intro d Xo TZ Xp;refine gH (wpAny_storeSet_of l rfl ?_ (fits_of_scanBound TX));have H:(s.heap.update a (Obj.putSet c d)).get? a=some { cls:=.type "set",dict:=none,data:=.set c (z+1) d }:=aap (Obj.putSet c d) l rfl;have T3:=abH s.heap a (Obj.putSet c d);split
   .have DB:=relayAll_perm d c (SetTable.grown c.size);have Og:=relayAll_fits d c (SetTable.grown c.size);obtain⟨Oh,Oi⟩:=Tw.R4 (t:=d) (es:=c) (n:=SetTable.grown c.size);generalize relayAll d c (SetTable.grown c.size)=L at DB Og Oh Oi ⊢
    obtain⟨Oj,W,g3⟩:=L;dsimp only at DB Og Oh Oi ⊢;have T4:Oj.size<scanBound:=by
     have:=DB.length_eq;simp at this;omega
    refine gH (N _ (gH (wpAny_storeSet_of H rfl (Ws ⟨_,rfl,rfl,T3.trans (abH _ a _),?_⟩) (fits_of_scanBound T4))));exact⟨Oj,z+1+1,W,aap (Obj.putSet Oj W) H rfl,λe f=>TU e (DB.mem_iff.mp f),Og,T4,Oh,λq=>by rw[Oi,TZ];exact Of q,(DB.map _).trans TV,ud nd⟩
   .exact Ws ⟨_,rfl,rfl,T3,c,z+1,d,H,TU,Xp,TX,Xo,λq=>by rw[TZ];exact Of q,TV,ud nd⟩
  split
  .refine gH ?_;rw[hashByValue_scannable 8 hx.sc];refine Ws ?_;refine ZT (fin _ ?_ ?_ ?_) (λr G q=>?_) λ_ _ q=>q
   .split
    .exact Dz
    .exact Dz.Gi
   .split<;>rfl
   .split
    .exact DA
    .exact SetTable.fits_plain_off DA
   .obtain⟨h',rfl,rfl,I,S'⟩:=q;exact Ws (h _ _ I S')
  .refine gH (Ws ?_);rw[gV rfl];refine ZT (fin F Dz rfl DA) (λr G q=>?_) λ_ _ q=>q;obtain⟨h',rfl,rfl,I,S'⟩:=q;exact Ws (h _ _ I S')
end
def ja(ks:List Key)(vs:W1):List Key:=vs.foldl (λk v=>gy k (dW v)) ks
theorem xH:∀(vs:W1) (ks:List Key),(ja ks vs).length<=ks.length+vs.length
 |[],ks=>Zw _
 |v :: vs,ks=>by
  have a:=xH vs (gy ks (dW v));have b:=Gj ks (dW v);show(ja (gy ks (dW v)) vs).length<=ks.length+(vs.length+1)
  omega
def Gk(ks:List Key)(a b:W1):ja ks (a++b)=ja (ja ks a) b:=abg
section
variable{P:Program}{w:World}{A:Around}{E:Φ}{s:Shared}
def Gm{R:Result->Shared->Prop}{I S:Addr}{items:Array Value}{l:Addr}(hh:A.in1.handled=none)(Z:l≠I)(DC:S≠I)(Xq:S≠l)(hb:items.size+1<scanBound)(hk:∀v∈items.toList,Ky v):
  ∀(k i:Nat) (s:Shared),items.size - i=k->i<=items.size->s.heap.IsListIter I l i/\s.heap.IsList l items->SW P w s.heap S (ja [] (items.toList.take i))->
   (∀h' tk,(∀b o,b≠S->b≠I->s.heap.get? b=some o->h'.get? b=some o)->SW P w h' S (ja [] items.toList)->R (.ok (.ret .none)) { s with heap:=h',toks:=tk })->
   codeAny (model P w) A (.builtin "set.update.loop" ⟨[.ref S,.ref I],[]⟩) R s:=by
 have W:=Walks.list (prog:=P) (w:=w) hh I l Z items;intro k;induction k with
 |zero=>
  intro i s H J f d g;have:i=items.size:=by omega
  subst this;refine codeAny_builtin F.entry_set_update_loop ?_;rw[Around.under_plainId F.plain_set_update_loop _];show wpAny _ A.in1 (pyNext (.ref I) >>= _) _ _ s;refine gH (W.done s _ _ f λh' tk q=>?_);refine Ws (g h' tk (λb o _ z=>q b o (by simpa using z)) (SW.at' (by
   rw[show items.toList.take items.size=items.toList from Z1 (by simp)]at d;exact d) λo e=>q S o (by simpa using DC) e))
 |succ k K=>
  intro i s H J f d g;have h:i<items.size:=by omega
  refine codeAny_builtin F.entry_set_update_loop ?_;rw[Around.under_plainId F.plain_set_update_loop _];show wpAny _ A.in1 (pyNext (.ref I) >>= _) _ _ s;refine gH (W.item i s _ _ h f λv r L y a B=>?_);have c:Ky v:=hk v (by
   have:items.toList[i]?=some v:=by rw[acr];exact y
   exact ZA this)
  have j:=d.at' (h':=r) λo e=>B S o (by simpa using DC) e;show wpAny _ A.in1 (holding [v] (setAdd S v) >>= _) _ _ _;refine gH (aan ?_);unfold setAdd;refine aan (gH ((bq P w).pyHash c.is ?_));refine KA (s:={ s with heap:=r,toks:=L+1 }) c j (by
   have:=xH (items.toList.take i) [];simp at this;omega) λb M p S2=>?_
  refine Ws ⟨plainId_quiet F.plain_set_update_loop _,K (i+1) _ (by omega) (by omega) ?_ ?_ λN Q X S3=>?_⟩
  .exact⟨a.1.at λo e=>by rw[p.2 I (aav DC)];exact e,a.2.at λo e=>by rw[p.2 l (aav Xq)];exact e⟩
  .have Y:items.toList.take (i+1)=items.toList.take i++[v]:=by
    rw[List.take_add_one,acr,y];rfl
   rw[Y,Gk];exact S2
  .refine g N Q (λb o C G e=>X b o C G ?_) S3;show M.get? b=some o;rw[p.2 b C];exact B b o (by simpa using G) e
def KC(a:Value){Q:Φ}(h:Q (.ref s.heap.objs.size) { s with heap:=s.heap.push { cls:=.type "set",dict:=none,data:=.set #[] 0 (.fresh 0 0 (!w.params.followText "set-order"))}}):
  codeAny (model P w) A (.call (.builtin "set.__new__") ⟨[.type "set",a],[]⟩) (wants Q E) s:=by
 refine codeAny_of_tree ?_;refine gH (aaL (PySem.F.newCall_set_1 a) (Ws ⟨plainId_quiet F.plain_set_new _,codeAny_builtin F.entry_set_new ?_⟩));rw[Around.under_plainId F.plain_set_new _];unfold Builtin.«set.__new__» Builtin.Frozenset.newClass;have b:=sub_set_self;obtain⟨c,g,d,tk,e⟩:=s;dsimp only
 wp_walk
 refine wpAny_askSetting (Ws ?_);dsimp only;simp only[newObj];exact gH (wpAny_alloc (Ws (Ws h)))
set_option maxHeartbeats 4000000 in
def Gn{l:Addr}{items:Array Value}{Q:Φ}(hh:A.handled=none)(hl:s.heap.IsList l items)(hk:∀v∈items.toList,Ky v)(hb:items.size+1<scanBound)(h:∀h' tk,SW P w h' s.heap.objs.size (ja [] items.toList)->(∀b o,s.heap.get? b=some o->h'.get? b=some o)->Q (.ref s.heap.objs.size) { s with heap:=h',toks:=tk }):
  wpAny (model P w) A (call (.type "set") [.ref l]) Q E s:=by
 obtain⟨c,tl,M⟩:=F.called_set.mro;have N:=F.called_set.made;have W:=F.called_set.sub;refine abv (codeAny_of_tree ?_);show wpAny _ _ (callAny (.type "set") _) _ _ _;refine Ws ⟨Code.quiet_builtin _ (by decide),codeAny_builtin F.entry_type_call ?_⟩;rw[Around.under_plain (weight_type_call_type "set" [.ref l] []) rfl];have X:=F.called_set.notType;have Y:=F.called_set.canCreate;have Z:=PySem.F.typeCall_set_1 (.ref l);repeat (any_goals (first|assumption|wp_step))
 refine aa6 (KC (.ref l) (E:=E) (Q:=λv s1=>v=.ref s.heap.objs.size/\s1={ s with heap:=s.heap.push { cls:=.type "set",dict:=none,data:=.set #[] 0 (.fresh 0 0 (!w.params.followText "set-order"))}}) ⟨rfl,rfl⟩) λr s1 q=>?_;cases r with
 |error e=>exact q
 |ok fl=>
  cases fl with
  |ret v=>
   obtain⟨rfl,rfl⟩:=q;generalize hso:({ cls:=.type "set",dict:=none,data:=.set #[] 0 (.fresh 0 0 (!w.params.followText "set-order"))}:Obj)=so
   have f:(s.heap.push so).get? s.heap.objs.size=some so:=ZM _ (by subst hso;rfl);have y:Shared.TypeIs { s with heap:=s.heap.push so } (.ref s.heap.objs.size) "set" :=⟨_,f,by subst hso;rfl⟩
   have y1:=F.called_set.init.lookup;have y2:=F.called_set.init.bind (.ref s.heap.objs.size);repeat (any_goals (first|assumption|wp_step))
   refine aa6 (codeAny_call_builtin (R:=wants (λr s2=>r=.none/\∃h' tk,s2={ s with heap:=h',toks:=tk }/\SW P w h' s.heap.objs.size (ja [] items.toList)/\(∀b o,s.heap.get? b=some o->h'.get? b=some o)) E) F.called_set.init.plain F.entry_set_init (check_set_init_1 y ?_)) λB s2 d=>?_
   .obtain⟨C,g,i,j,p⟩:=hl;obtain⟨c1,G,c3,H⟩:=C;simp only at i p;subst i;subst p;have J:(s.heap.push so).get? l=some { cls:=.type "list",dict:=G,data:=.seq items j,slots:=H }:=ZD _ g;have n1:=PySem.F.sub_list_set;have n2:=PySem.F.sub_list_frozenset;have n3:(Value.type "list" ==Value.type "dict")=false:=by decide
    have a:(s.heap.push so).IsList l items:=⟨_,J,rfl,j,rfl⟩
    subst hso;unfold Builtin.«set.__init__» noKeywords Builtin.Frozenset.updateFrom;generalize Xr:pyIter=PI
    wp_walk
    subst Xr;refine wpAny_pyIter_list (l:=l) (items:=items) ?_ ?_
    .exact a
    refine gH (wpAny_runValue ?_);have T5:l<s.heap.objs.size:=ZI g;refine Gm (I:=(s.heap.push _).objs.size) (l:=l) (items:=items) (by simp[hh]) (by rw[aco];exact ZR (Nat.lt_succ_of_lt T5)) (by rw[aco];exact ZR (aa3 _)) (acI T5) hb hk (items.size - 0) 0 _ rfl (aas _)
     ⟨⟨_,ZM _ rfl,rfl,rfl⟩,a.push _⟩ ?_ λh' tk q S'=>?_
    .refine⟨#[],0,.fresh 0 0 (!w.params.followText "set-order"),?_,λe K=>by simp at K,rfl,by decide,⟨rfl,List.Pairwise.nil⟩,λz=>by show(!w.params.followText "set-order")=true;rw[z];rfl,?_,?_⟩
     .exact ZD _ f
     .simp[ja]
     .simp[ja]
    .show wpAny _ _ _ _ _ _;refine Ws ?_;show wpAny _ _ (ret Value.none) _ _ _;refine Ws ⟨rfl,h',tk,rfl,S',λb o e=>q b o (ZR (ZI e)) ?_ (ZD _ (ZD _ e))⟩;rw[aco];exact ZR (Nat.lt_succ_of_lt (ZI e))
   .cases B with
    |error e=>exact d
    |ok f2=>
     cases f2 with
     |ret r=>
      obtain⟨rfl,h',tk,rfl,S',L⟩:=d;repeat (any_goals (first|assumption|wp_step))
      exact h _ _ S' L
     |_=>exact d.elim
  |_=>exact q.elim
end
def DE:entryFor table "set.__iter__" = some Builtin.«frozenset.__iter__»:=by
 refine entryFor_alias (id':="frozenset.__iter__") ?_ rfl ?_ ?_
 .kernel_rfl
 .decide
 .kernel_rfl
def kU:entryFor table "set_iterator.__next__" = some Builtin.«set_iterator.__next__»:=entryFor_of_tree (by kernel_rfl)
def fh:Slot "set_iterator" "__next__" "set_iterator.__next__" :=by
 refine .of (owner:="set_iterator") (n:="__next__") ?_ ?_ ?_ ?_ (.inl ?_) ?_
 .rw[typeLookup_type,builtinLookup_eq_fast];kernel_rfl
 .decide
 .decide
 .decide
 .decide
 .rw[isSubtype_type];kernel_rfl
def mV(a:Value):argsOk "set_iterator.__next__" ⟨[a],[]⟩:=by unfold argsOk;kernel_rfl
def Ab{α:Type}{l:List α}{i:Nat}(h:i<l.length):(l[i] :: l.eraseIdx i).Perm l:=by
 rw[List.eraseIdx_eq_take_drop_succ];refine List.perm_middle.symm.trans ?_;rw[<-aaq h,aa1]
theorem Ac{α:Type}(nx:Nat->Nat):∀(f k:Nat) (l:List α) (out:Array α),f=l.length->(pickOrder.go nx f k l out).toList.Perm (out.toList++l)
 |0,k,l,out,e=>by
  have:l=[]:=List.eq_nil_of_length_eq_zero e.symm;subst this;unfold pickOrder.go;simp
 |f+1,k,l,out,e=>by
  have a:nx k % l.length<l.length:=Nat.mod_lt _ (by omega);unfold pickOrder.go;rw[Zy a];dsimp only;refine(Ac nx f (k+1) _ _ (by rw[List.length_eraseIdx_of_lt a];omega)).trans ?_;rw[Array.toList_push,ZV];exact(Ab a).append_left _
def vz{α:Type}(nx:Nat->Nat)(xs:Array α):(pickOrder nx xs).toList.Perm xs.toList:=by
 have:=Ac nx xs.size 0 xs.toList #[] (by simp);simpa[pickOrder]using this
section
variable{P:Program}{w:World}{A:Around}{E:Φ}{s:Shared}
def BD{src:Source}{n:Nat}{Q:Nat->Shared->Prop}(z:n≠0)(h:∀i d,i<n->Q i { s with drawn:=d }):wpAny (model P w) A (choose src n) Q E s:=λΓ p _=>by
 show Sem.wp _ Γ (.choose src n .pure) _ _ p s;rw[Sem.wp_choose];exact⟨z,h _ _ (Nat.mod_lt _ (Nat.pos_of_ne_zero z))⟩
theorem Ad{α:Type}:∀(n:Nat) (xs:List α) (s:Shared) {Q:List α->Shared->Prop},n=xs.length->(∀z d,z.Perm xs->Q z { s with drawn:=d })->wpAny (model P w) A (drawOrder n xs) Q E s
 |0,xs,s,Q,e,h=>by
  have:xs=[]:=List.eq_nil_of_length_eq_zero e.symm;subst this;exact Ws (h [] s.drawn .nil)
 |n+1,[],s,Q,e,h=>by cases e
 |n+1,x :: xs,s,Q,e,h=>by
  show wpAny _ _ (choose .order (x :: xs).length >>= _) _ _ _;refine gH (BD (by simp) λi d a=>?_);rw[Zy a];dsimp only;refine gH (Ad n ((x :: xs).eraseIdx i) _ (by rw[List.length_eraseIdx_of_lt a];omega) λz b p=>?_);exact Ws (h _ b ((p.cons _).trans (Ab a)))
def SO(h:Heap)(a:Addr)(es:Array (Int×Value))(ep:Nat)(t:SetTable):Prop:=h.get? a=some { cls:=.type "set",dict:=none,data:=.set es ep t }
def SI(h:Heap)(I a:Addr)(f:Value)(i n ep:Nat):Prop:=h.get? I=some { cls:=.type "set_iterator",dict:=none,data:=.fields #[f,.int i 0,.ref a,.int n 0,.int ep 0]}
def lY{Q:Bool->Shared->Prop}(h:Q (w.params.followText "set-order") s):wpAny (model P w) A setsByText Q E s:=gH (wpAny_askSetting (Ws h))
def vA{Q:Option Value->Shared->Prop}(z:A.handled=none)(h:∀h',(∀b o,s.heap.get? b=some o->h'.get? b=some o)->Q none { s with heap:=h' }):
  wpAny (model P w) A.in1 (newExc (.type "StopIteration") [] >>= λx=>(raiseNew x:Sem PySem.Fin)) (λ_ _=>False) (λe s1=>wpAny (model P w) A (do
   if <-isInstance e (.type "StopIteration")then pure none else throw e) Q E s1) s:=by
 refine gH ?_;simp only[newExc,newTuple];refine gH (aak ?_ (by size_fits));refine gH (m:=firstArgMember _ _) (aaL (a:=Value.none) (by first|rfl | (simp only[firstArgMember];rfl)) ?_);refine aak ?_ (by size_fits);simp only[raiseNew];refine gH (wpAny_handled ?_);rw[show A.in1.handled=none from z];refine gH (Ws (wpAny_throw ?_));refine gH (ab3 (T:="StopIteration") (b:=true) ⟨_,ZM _ rfl,rfl⟩ isSubtype_stop ?_);exact Ws (h _ λb o e=>ZD _ (ZD _ e))
end
section
variable{P:Program}{w:World}{A:Around}{E:Φ}{s:Shared}{I a:Addr}{es:Array (Int×Value)}{ep:Nat}{t:SetTable}
def NX(P:Program)(w:World)(a:Addr)(es:Array (Int×Value))(ep:Nat)(t:SetTable)(slot i:Nat)(r:Option (Value×Nat)):Prop:=
 ∀(A:Around) (E:Φ) (s:Shared) (Q:Option (Value×Nat)->Shared->Prop),SO s.heap a es ep t->Q r s->wpAny (model P w) A (setNext a slot i ep) Q E s
def SI.ty{f:Value}{i n:Nat}(h:SI s.heap I a f i n ep):s.TypeIs (.ref I) "set_iterator" :=⟨_,h,rfl⟩
def SO.ty(h:SO s.heap a es ep t):s.TypeIs (.ref a) "set" :=⟨_,h,rfl⟩
def Ol{slot i nx:Nat}{v:Value}{Q:Option Value->Shared->Prop}(z:SI s.heap I a (.int slot 0) i es.size ep)(Z:SO s.heap a es ep t)(fit:t.fits es.size=true)(hne:a≠I)(hx:NX P w a es ep t slot i (some (v,nx)))(hQ:∀h',SI h' I a (.int nx 0) (i+1) es.size ep->Heap.SameBut I s.heap h'->Q (some v) { s with heap:=h' }):wpAny (model P w) A (pyNext (.ref I)) Q E s:=by
 unfold pyNext;refine gH (aa4 (aaQ (name:=Str.ofString "__next__") z.ty fh (aax fh z.ty kU ?_ (mV _))));refine gH (Ws ?_);refine gH (wpAny_fieldsOf z rfl ?_);refine gH (wpAny_setEntries_of Z rfl fit ?_);rw[Yl (by simp)];refine gH (hx _ _ _ _ Z ?_);dsimp only;refine gH (acn z rfl (by simp) ?_);have b:SI (s.heap.update I (Obj.mapFields (·.setIfInBounds 0 (rawInt nx)))) I a (.int nx 0) i es.size ep:=aap _ z rfl;refine gH (acn b rfl (by simp) ?_);refine Ws ⟨_,rfl,Ws (hQ _ ?_ ((abH ..).trans (abH ..)))⟩;exact aap _ b rfl
def BE{slot i:Nat}{Q:Option Value->Shared->Prop}(hh:A.handled=none)(z:SI s.heap I a (.int slot 0) i es.size ep)(Z:SO s.heap a es ep t)(fit:t.fits es.size=true)(hx:NX P w a es ep t slot i none)(hQ:∀h',Heap.ExtBut I s.heap h'->Q none { s with heap:=h' }):wpAny (model P w) A (pyNext (.ref I)) Q E s:=by
 unfold pyNext;refine gH (aa4 (aaQ (name:=Str.ofString "__next__") z.ty fh (aax fh z.ty kU ?_ (mV _))));refine gH (Ws ?_);refine gH (wpAny_fieldsOf z rfl ?_);refine gH (wpAny_setEntries_of Z rfl fit ?_);rw[Yl (by simp)];refine gH (hx _ _ _ _ Z ?_);dsimp only;refine gH (acn z rfl (by simp) ?_);refine ZT (vA (Q:=Q) (E:=E) (s:={ s with heap:=s.heap.update I (Obj.mapFields (·.setIfInBounds 2 Value.none))}) hh λh' k=>hQ h' ?_) (λ_ _ f=>f.elim) λe s1 q=>q;exact λb o c d=>k b o ((abH ..).extBut b o c d)
def TP(h:Heap)(T:Addr)(ps:Ξ):Prop:=h.get? T=some { cls:=.type "tuple",dict:=none,data:=.seq (ps.map λ(i:Nat)=>rawInt i).toArray }
def Om{T:Addr}{ps:Ξ}{i p:Nat}{hv:Int}{v:Value}{Q:Option Value->Shared->Prop}(z:SI s.heap I a (.ref T) i es.size ep)(Z:SO s.heap a es ep t)(fit:t.fits es.size=true)(hT:TP s.heap T ps)(hp:ps[i]?=some p)(hx:es[p]?=some (hv,v))(hQ:∀h',SI h' I a (.ref T) (i+1) es.size ep->Heap.SameBut I s.heap h'->Q (some v) { s with heap:=h' }):wpAny (model P w) A (pyNext (.ref I)) Q E s:=by
 unfold pyNext;refine gH (aa4 (aaQ (name:=Str.ofString "__next__") z.ty fh (aax fh z.ty kU ?_ (mV _))));refine gH (Ws ?_);refine gH (wpAny_fieldsOf z rfl ?_);refine gH (wpAny_setEntries_of Z rfl fit ?_);rw[Yl (by simp)];refine gH (wpAny_seqItems hT rfl ?_);dsimp only;have b:((ps.map λ(i:Nat)=>rawInt i).toArray)[(Int.toNat ((i:Nat):Int))]?=some (rawInt p):=by
  rw[aaX,List.getElem?_toArray,aaa,hp];rfl
 rw[b];show wpAny _ _ (setNextDrawn a (Int.toNat ((p:Nat):Int)) (Int.toNat ((ep:Nat):Int)) >>= _) _ _ _;unfold setNextDrawn;refine gH (gH (wpAny_setState_of Z rfl fit ?_));dsimp only;rw[Yl (by simp),aaX,hx];refine Ws ?_;refine gH (acn z rfl (by simp) ?_);refine Ws ⟨_,rfl,Ws (hQ _ ?_ (abH ..))⟩;exact aap _ z rfl
def BF{T:Addr}{ps:Ξ}{i:Nat}{Q:Option Value->Shared->Prop}(Z:A.handled=none)(z:SI s.heap I a (.ref T) i es.size ep)(hS:SO s.heap a es ep t)(fit:t.fits es.size=true)(hT:TP s.heap T ps)(hp:ps[i]?=none)(hQ:∀h',Heap.ExtBut I s.heap h'->Q none { s with heap:=h' }):wpAny (model P w) A (pyNext (.ref I)) Q E s:=by
 unfold pyNext;refine gH (aa4 (aaQ (name:=Str.ofString "__next__") z.ty fh (aax fh z.ty kU ?_ (mV _))));refine gH (Ws ?_);refine gH (wpAny_fieldsOf z rfl ?_);refine gH (wpAny_setEntries_of hS rfl fit ?_);rw[Yl (by simp)];refine gH (wpAny_seqItems hT rfl ?_);dsimp only;have c:((ps.map λ(i:Nat)=>rawInt i).toArray)[(Int.toNat ((i:Nat):Int))]?=none:=by
  rw[aaX,List.getElem?_toArray,aaa,hp];rfl
 rw[c];dsimp only;refine gH (acn z rfl (by simp) ?_);have d:SI (s.heap.update I (Obj.mapFields (·.setIfInBounds 0 (rawInt 0)))) I a (.int 0 0) i es.size ep:=aap _ z rfl;refine gH (acn d rfl (by simp) ?_);refine ZT (vA (Q:=Q) (E:=E) Z λh' k=>hQ h' ?_) (λ_ _ f=>f.elim) λe s1 q=>q;exact λb o c g=>k b o (((abH ..).trans (abH ..)).extBut b o c g)
end
def DF:entryFor table "set_iterator.__iter__" = some Builtin.«dict_keyiterator.__iter__»:=by
 refine entryFor_alias (id':="dict_keyiterator.__iter__") ?_ rfl ?_ ?_
 .kernel_rfl
 .decide
 .kernel_rfl
def xJ:Slot "set_iterator" "__iter__" "set_iterator.__iter__" :=by
 refine .of (owner:="set_iterator") (n:="__iter__") ?_ ?_ ?_ ?_ (.inl ?_) ?_
 .rw[typeLookup_type,builtinLookup_eq_fast];kernel_rfl
 .decide
 .decide
 .decide
 .decide
 .rw[isSubtype_type];kernel_rfl
def Gp(a:Value):argsOk "set_iterator.__iter__" ⟨[a],[]⟩:=by unfold argsOk;kernel_rfl
section
variable{P:Program}{w:World}{A:Around}{E:Φ}{s:Shared}{I a:Addr}{es:Array (Int×Value)}{ep:Nat}{t:SetTable}
def Ae{f:Value}{i n:Nat}{Q:Φ}(h:SI s.heap I a f i n ep)(q:Q (.ref I) s):wpAny (model P w) A (pyIter (.ref I)) Q E s:=by
 refine wpAny_pyIter_slot h.ty xJ (aax xJ h.ty DF ?_ (Gp _));show wpAny _ _ (ret (.ref I)) _ _ s;exact Ws ⟨_,rfl,"set_iterator",_,h.ty,fh.lookup,q⟩
def Af(t:SetTable):Nat->Nat
 |0=>0
 |i+1=>t.place.getD i 0+1
def DG(fit:t.fits es.size=true):t.place.size=es.size:=by
 simp only[SetTable.fits,yK,acu]at fit;exact fit.1
def Oo(hb:w.params.followText "set-order" = false)(led:t.led=true)(tw:Tw t)(fit:t.fits es.size=true)(dr:(!t.plain&&decide (es.size > 1))=false){i:Nat}{e:Int×Value}(Z:es[i]?=some e):NX P w a es ep t (Af t i) i (some (e.2,Af t (i+1))):=by
 intro A E s Q c q;have b:i<t.place.size:=by rw[DG fit];exact(Array.getElem?_eq_some_iff.mp Z).1
 have d:SetTable.below t.place (Af t i)=i:=by
  refine below_at tw.2 b ?_ λk f=>?_
  .cases i with
   |zero=>exact aas _
   |succ i=>exact tw.2.lt (aa3 i) b
  .cases i with
   |zero=>omega
   |succ i=>
    show _<t.place.getD i 0+1;by_cases z:k=i
    .rw[z];omega
    .have:=tw.2.lt (show k<i by omega) (by omega);omega
 unfold setNext;refine gH (wpAny_setState_of c rfl fit ?_);dsimp only;refine gH (lY ?_);rw[hb,Yl Z5];refine aad (λz=>absurd z (by show ¬ (!t.plain&&decide (es.size > 1))=true;rw[dr];exact Z5)) λ_=>?_;refine gH ?_;show wpAny _ _ (if (!t.led&&!es.isEmpty)=true then unsupported "set:maker-not-led" else pure ()) _ _ _;rw[led];refine Ws (Ws ?_);rw[d,Z,zZ b];exact q
def BG(Z:w.params.followText "set-order" = false)(led:t.led=true)(tw:Tw t)(fit:t.fits es.size=true)(dr:(!t.plain&&decide (es.size > 1))=false):NX P w a es ep t (Af t es.size) es.size none:=by
 intro A E s Q b q;have c:SetTable.below t.place (Af t es.size)=es.size:=by
  rw[<-DG fit];refine Dw tw.2 λk d=>?_;cases hz:t.place.size with
  |zero=>omega
  |succ i=>
   show _<t.place.getD i 0+1;by_cases z:k=i
   .rw[z];omega
   .have:=tw.2.lt (show k<i by omega) (by omega);omega
 unfold setNext;refine gH (wpAny_setState_of b rfl fit ?_);dsimp only;refine gH (lY ?_);rw[Z,Yl Z5];refine aad (λz=>absurd z (by show ¬ (!t.plain&&decide (es.size > 1))=true;rw[dr];exact Z5)) λ_=>?_;refine gH ?_;show wpAny _ _ (if (!t.led&&!es.isEmpty)=true then unsupported "set:maker-not-led" else pure ()) _ _ _;rw[led];refine Ws (Ws ?_);rw[c,Array.getElem?_eq_none (Zw _)];exact q
def DH(z:w.params.followText "set-order" = true)(fit:t.fits es.size=true)(i:Nat):NX P w a es ep t 0 i (((pickOrder (w.params.setOrder a ep) es)[i]?).map λe=>(e.2,0)):=by
 intro A E s Q b q;unfold setNext;refine gH (wpAny_setState_of b rfl fit ?_);dsimp only;refine gH (lY ?_);rw[z,gV rfl,Yl (by simp)];unfold setWalk;refine gH (gH (wpAny_setState_of b rfl fit ?_));dsimp only;refine gH (lY ?_);rw[z,gV rfl];exact gH (wpAny_askSetting (Ws (Ws q)))
def Gq{Q:Φ}(hS:SO s.heap a es ep t)(fit:t.fits es.size=true)(sm:es.size<scanBound)(tw:Tw t)(led:w.params.followText "set-order" = false->t.led=true)(h:∀(I:Addr) (h':Heap) d (vs:W1) (St:Nat->Heap->Prop) (fp:Y2),vs.Perm (es.toList.map (·.2))->(∀A:Around,A.handled=none->Walks P w A I fp [I] es.size (λi v=>vs[i]?=some v) St)->St 0 h'->
   (∀b o,s.heap.get? b=some o->h'.get? b=some o)->s.heap.objs.size<=I->(∀b∈fp,b=a\/s.heap.objs.size<=b)->Q (.ref I) { s with heap:=h',drawn:=d }):
  wpAny (model P w) A (pyIter (.ref a)) Q E s:=by
 have Io:a<s.heap.objs.size:=ZI hS;refine wpAny_pyIter_slot hS.ty PySem.F.slot_set_iter (aax PySem.F.slot_set_iter hS.ty DE ?_ (PySem.F.args_set_iter_1 _));unfold Builtin.«frozenset.__iter__» Builtin.Frozenset.slot0;refine gH (gH (Ws (Ws ?_)));unfold Builtin.Frozenset.sizeOf;refine gH (gH (wpAny_setEntries_of hS rfl fit (Ws ?_)));refine gH ?_;unfold setDrawn;refine gH (wpAny_setState_of hS rfl fit ?_);dsimp only;refine gH (lY (Ws ?_));have q:∀(s1:Shared) (f:Value) (St:Nat->Heap->Prop) (fp:Y2) (vs:W1),SO s1.heap a es ep t->s.heap.objs.size<=s1.heap.objs.size->s1.gens=s.gens->s1.toks=s.toks->s1.os=s.os->(∀b o,s.heap.get? b=some o->s1.heap.get? b=some o)->vs.Perm (es.toList.map (·.2))->
   (∀A:Around,A.handled=none->Walks P w A s1.heap.objs.size fp [s1.heap.objs.size] es.size (λi v=>vs[i]?=some v) St)->(∀b∈fp,b=a\/s.heap.objs.size<=b)->
   (∀h',SI h' s1.heap.objs.size a f 0 es.size ep->(∀b o,s1.heap.get? b=some o->h'.get? b=some o)->St 0 h')->
   wpAny (model P w) A.in1 (do ret (<-newFields "set_iterator" [f,rawInt 0,.ref a,rawInt es.size,rawInt (<-setEpoch a)])) (λx s2=>∃v,x=PySem.Fin.done (.ret v)/\∃T idx,s2.TypeIs v T/\typeLookup (.type T) (Str.ofString "__next__")=pure (some idx)/\Q v s2) E s1:=by
  intro s1 f St fp vs DC l1 l2 l3 l4 l5 pv W M N;refine gH (wpAny_setEpoch_of DC rfl fit ?_);refine gH (aak (Ws ⟨_,rfl,"set_iterator",_,⟨_,ZM _ rfl,rfl⟩,fh.lookup,?_⟩));have j:=h s1.heap.objs.size _ s1.drawn vs St fp pv W (N (s1.heap.push { cls:=.type "set_iterator",dict:=none,data:=.fields #[f,.int 0 0,.ref a,.int es.size 0,.int ep 0]}) (ZM _ rfl) λb o e=>ZD _ e) (λb o e=>ZD _ (l5 b o e)) l1 M;obtain⟨p1,p2,p3,p4,p5⟩:=s1;simp only at l2 l3 l4;subst l2;subst l3;subst l4;exact j
 refine aad (λz=>?_) λz=>?_
 .have hz:es.size<=sizeLine:=fits_of_scanBound sm;refine gH (Ad _ _ _ (by simp) λps d X=>?_);have C:ps.length=es.size:=by rw[X.length_eq];simp
  refine gH (wpAny_newTuple ?_ (by rw[ZF,C];exact hz));have Y:∀p∈ps,p<es.size:=λp y=>List.mem_range.mp (X.mem_iff.mp y);generalize hto:({ cls:=.type "tuple",data:=.seq (ps.map λ(i:Nat)=>rawInt i).toArray }:Obj)=to
  refine q { s with heap:=s.heap.push to,drawn:=d } (.ref s.heap.objs.size) (λi h=>SI h (s.heap.push to).objs.size a (.ref s.heap.objs.size) i es.size ep/\SO h a es ep t/\TP h s.heap.objs.size ps) [(s.heap.push to).objs.size,a,s.heap.objs.size] (ps.map λp=>((es[p]?).map (·.2)).getD .none)
   (ZD _ hS) (by rw[aco];exact acO _) rfl rfl rfl (λb o e=>ZD _ e) ?_ (λA1 Z=>?_) ?_ λh' x k=>⟨x,k _ _ (ZD _ hS),k _ _ (by subst hto;exact ZM _ rfl)⟩
  .refine(X.map _).trans (List.Perm.of_eq ?_);refine List.ext_getElem (by simp) λi h1 h2=>?_;have r:i<es.size:=by simpa using h1
   simp[abZ r]
  .have l:a≠(s.heap.push to).objs.size:=by rw[aco];exact ZR (Nat.lt_succ_of_lt Io)
   have ne2:s.heap.objs.size≠(s.heap.push to).objs.size:=by rw[aco];exact ZR (aa3 _)
   exact {
    sub:=λb c=>by simp at c;simp[c]
    frame:=λi h h' g G=>⟨G _ (by simp) _ g.1,G _ (by simp) _ g.2.1,G _ (by simp) _ g.2.2⟩
    item:=λi s1 Q1 E1 r g j=>by
     have y:ps[i]?=some (ps[i]'(by rw[C];exact r)):=Zy _;have K:ps[i]'(by rw[C];exact r)<es.size:=Y _ (List.getElem_mem _);refine Om (hv:=(es[ps[i]'(by rw[C];exact r)]).1) (v:=(es[ps[i]'(by rw[C];exact r)]).2) g.1 g.2.1 fit g.2.2 y (abZ K) λh' B H=>j _ h' s1.toks ?_ ⟨B,?_,?_⟩ λb o c e=>?_
     .rw[aaa,y];simp[abZ K]
     .exact(H.2 _ l).trans g.2.1
     .exact(H.2 _ ne2).trans g.2.2
     .exact(H.2 _ (by simpa using c)).trans e
    done:=λs1 Q1 E1 g j=>BF Z g.1 g.2.1 fit g.2.2 (Z7 (by rw[C];exact Zw _)) λh' B=>j h' s1.toks λb o c e=>B b o (by simpa using c) e
    self:=λi s1 Q1 E1 g j=>Ae g.1 j }
  .intro b c;simp at c;rcases c with rfl|rfl|rfl
   .exact .inr (by exact acO _)
   .exact .inl rfl
   .exact .inr (Zw _)
 .refine gH (Ws ?_);have l:a≠s.heap.objs.size:=ZR Io;have M:∀b∈[s.heap.objs.size,a],b=a\/s.heap.objs.size<=b:=λb c=>by
   simp at c;rcases c with rfl|rfl
   .exact .inr (Zw _)
   .exact .inl rfl
  have go:∀(J:Nat->Nat) (vs:W1),J 0=0->vs.Perm (es.toList.map (·.2))->(∀i v,vs[i]?=some v->NX P w a es ep t (J i) i (some (v,J (i+1))))->NX P w a es ep t (J es.size) es.size none->wpAny (model P w) A.in1 (do ret (<-newFields "set_iterator" [rawInt 0,rawInt 0,.ref a,rawInt es.size,rawInt (<-setEpoch a)])) (λx s2=>∃v,x=PySem.Fin.done (.ret v)/\∃T idx,s2.TypeIs v T/\typeLookup (.type T) (Str.ofString "__next__")=pure (some idx)/\Q v s2) E s:=by
   intro J vs e0 pv hx L;have vl:vs.length=es.size:=by rw[pv.length_eq];simp
   refine q s (rawInt 0) (λi h=>SI h s.heap.objs.size a (.int (J i) 0) i es.size ep/\SO h a es ep t) [s.heap.objs.size,a] vs hS (Zw _) rfl rfl rfl (λb o e=>e) pv (λA1 Z=>?_) M λh' x k=>⟨by rw[e0];exact x,k _ _ hS⟩
   exact {
    sub:=λb c=>by simp at c;simp[c]
    frame:=λi h h' g G=>⟨G _ (by simp) _ g.1,G _ (by simp) _ g.2⟩
    item:=λi s1 Q1 E1 r g j=>by
     have y:vs[i]?=some (vs[i]'(by rw[vl];exact r)):=Zy _;refine Ol g.1 g.2 fit l (hx i _ y) λh' B H=>j _ h' s1.toks y ⟨B,?_⟩ λb o c e=>?_
     .exact(H.2 _ l).trans g.2
     .exact(H.2 _ (by simpa using c)).trans e
    done:=λs1 Q1 E1 g j=>BE Z g.1 g.2 fit L λh' B=>j h' s1.toks λb o c e=>B b o (by simpa using c) e
    self:=λi s1 Q1 E1 g j=>Ae g.1 j }
  cases c:w.params.followText "set-order" with
  |true=>
   refine go (λ_=>0) ((pickOrder (w.params.setOrder a ep) es).toList.map (·.2)) rfl ((vz _ _).map _) (λi v e=>?_) ?_
   .rw[aaa,acr]at e;obtain⟨x,x1,x2⟩:=kA e;have:=DH (P:=P) (a:=a) (ep:=ep) c fit i;rw[x1]at this;subst x2;exact this
   .have:=DH (P:=P) (a:=a) (ep:=ep) c fit es.size;rw[Array.getElem?_eq_none (by rw[<-aaP,(vz _ _).length_eq];simp)]at this;exact this
  |false=>
   have dr:(!t.plain&&decide (es.size > 1))=false:=by
    rw[c]at z;cases hd:(!t.plain&&decide (es.size > 1))with
    |false=>rfl
    |true=>exact absurd hd z
   refine go (Af t) (es.toList.map (·.2)) rfl .rfl (λi v e=>?_) (BG c (led c) tw fit dr);rw[aaa,acr]at e;obtain⟨x,x1,x2⟩:=kA e;subst x2;exact Oo c (led c) tw fit dr x1
end
open PySem.SeqAt
open Ev (D O Hh Fr R aE E Es Eo T S Ss Fl Src bA br TY BI ME)
section
variable{P:Program}{w:World}{A:Around}{E:Φ}{s:Shared}
def Gr{r:Addr}{Q:Bool->Shared->Prop}(I:s.TypeIs (.ref r) "set")(h:Q false s):wpAny (model P w) A (Builtin.List.listLengthHint (.ref r)) Q E s:=by
 unfold Builtin.List.listLengthHint;refine gH (aaT I PySem.F.slot_set_len.lookup ?_);generalize hid:("set.__len__" : String)=i0
 wp_delta
 rw[show splitId i0=some ("set","__len__")from by subst hid;decide];subst hid;refine gH (ab3 (T:="set") (b:=true) I sub_set_self ?_);refine aad (λz=>absurd z (by decide)) λ_=>?_;refine aad (λ_=>?_) λz=>absurd (by decide) z;exact gH (ab0 I (Ws h))
def zb{a:Addr}{ks:List Key}{R:List Value->Shared->Prop}(hh:A.handled=none)(S:SW P w s.heap a ks)(h:∀(h':Heap) (tk:Nat) d (vs:W1),(∀b o,s.heap.get? b=some o->h'.get? b=some o)->(vs.map dW).Perm ks->(∀v∈vs,Ky v)->R vs { s with heap:=h',toks:=tk,drawn:=d }):
  wpAny (model P w) A (collect (.ref a)) R E s:=by
 obtain⟨y,ep,t,Z,el,fit,sm,tw,N,pm,nd⟩:=S;have hn:y.size<=sizeLine:=fits_of_scanBound sm;have Io:a<s.heap.objs.size:=ZI Z;unfold collect;refine gH (wpAny_runValue (codeAny_builtin entry_proto_collect' ?_));rw[Around.under_plainId PySem.F.plain_proto_collect _];refine gH (aak ?_);refine Ws ⟨plainId_quiet PySem.F.plain_list_iadd _,codeAny_builtin entry_list_iadd' ?_⟩;rw[Around.under_plainId PySem.F.plain_list_iadd _];show wpAny _ A.in1 (Builtin.List.listExtendWith (.ref s.heap.objs.size) (.ref a) (.ref s.heap.objs.size)) _ _ _;generalize hlo:({ cls:=.type "list",data:=.seq ([]:W1).toArray }:Obj)=lo
 have hL:(s.heap.push lo).get? s.heap.objs.size=some { cls:=.type "list",data:=.seq #[]}:=by subst hlo;exact ZM _ rfl
 have Q:SO (s.heap.push lo) a y ep t:=ZD _ Z;have T6:s.heap.objs.size≠a:=acI Io;unfold Builtin.List.listExtendWith;refine gH (ab0 (T:="set") (SO.ty (s:={ s with heap:=s.heap.push lo }) Q) ?_);have e1:Builtin.List.listSameRef (.ref s.heap.objs.size) (.ref a)=false:=by simp[Builtin.List.listSameRef,T6]
 have e2:(Value.type "set" ==Value.type "list")=false:=by decide
 have e3:(Value.type "set" ==Value.type "tuple")=false:=by decide
 simp only[e1,e2,e3,Bool.or_false,aaD,abn];refine gH (Gq (s:={ s with heap:=s.heap.push lo }) Q fit sm tw N λI h1 d vs St fp pv W st k1 lI hf=>?_);have Oq:=k1 _ _ hL;have B:s.heap.objs.size∉fp:=λq=>by
  rcases hf _ q with z|z
  .exact T6 z
  .rw[show(({ s with heap:=s.heap.push lo }:Shared).heap.objs.size)=s.heap.objs.size+1 from aco _ _]at z;exact absurd z (Nat.not_succ_le_self _)
 refine gH (aan (Gr (SO.ty (s:={ s with heap:=h1,drawn:=d }) (k1 _ _ Q)) ?_));have fin:∀(C:Heap) (tk c:Nat),St 0 C->(∀b o,b≠s.heap.objs.size->h1.get? b=some o->C.get? b=some o)->C.get? s.heap.objs.size=some { cls:=.type "list",data:=.seq #[] c }->
   codeAny (model P w) A (.builtin "list.extend.loop" ⟨[.ref s.heap.objs.size,.ref I,.ref s.heap.objs.size],[]⟩) (λq p=>∃h' tk f l,q=.ok (.ret (.ref s.heap.objs.size))/\p={ s with heap:=h',toks:=tk,drawn:=d }/\(∀b o,s.heap.get? b=some o->h'.get? b=some o)/\h'.get? s.heap.objs.size=some { cls:=.type "list",dict:=none,data:=.seq f l,slots:=#[]}/\f.toList=vs) { s with heap:=C,toks:=tk,drawn:=d }:=by
  intro C tk c X k2 Xu;refine codeAny_extend_loopS (W A.in1 (by simpa using hh)).toS hn _ B _ y.size 0 _ #[] c rfl (aas _) X Xu (ItemsOf.nil _) λp f l hm Y j=>?_;have z:=Moved.eq_with hm;rw[z];refine⟨p.heap,p.toks,f,l,rfl,rfl,λb o e=>?_,Y,?_⟩
  .have K:=ZI e;refine hm.heap b o (λq=>?_) (k2 b o (ZR K) (k1 b o (ZD _ e)));rcases qE q with z|z
   .exact ZR K z
   .rw[List.mem_singleton.mp z]at K;have:s.heap.objs.size+1<=I:=by rw[<-aco s.heap lo];exact lI
    exact absurd (Uv K (acO _)) (Nat.not_lt.mpr this)
  .refine abU λi=>?_;have vl:vs.length=y.size:=by rw[pv.length_eq];simp
   by_cases hi:i<y.size
   .obtain⟨v,L⟩:∃v,f[i]?=some v:=⟨f[i]'(by rw[j.1];exact hi),abZ _⟩
    rw[acr,L];exact(j.2 i v L).symm
   .rw[Z7 (by rw[aaP,j.1];omega),Z7 (by omega)]
 have done:∀(h':Heap) (g:Nat) (f:Array Value) (l:Nat),(∀b o,s.heap.get? b=some o->h'.get? b=some o)->h'.get? s.heap.objs.size=some { cls:=.type "list",dict:=none,data:=.seq f l,slots:=#[]}->f.toList=vs->
   wpAny (model P w) A (load s.heap.objs.size >>= λo=>match o.data with|.seq xs _=>pure xs.toList|_=>unsupported "internal:collect") R E { s with heap:=h',toks:=g,drawn:=d }:=by
  intro h' g f l G H J;refine gH (wpAny_load H (Ws ?_));rw[J];refine h h' g d vs G ?_ λv L=>?_
  .refine(pv.map dW).trans ?_;rw[abw];exact pm
  .obtain⟨e,he,rfl⟩:=List.mem_map.mp (pv.mem_iff.mp L);exact(el e he).2
 refine aad (λ_=>?_) λ_=>?_
 .refine gH (abV (gH ?_));show wpAny _ _ (updateSeq s.heap.objs.size (·.push .none) >>= λ_=>updateSeq s.heap.objs.size (·.pop)) _ _ _;refine gH (acg Oq rfl ?_);have u1:=aap (Obj.mapSeq (·.push Value.none)) Oq rfl;refine acg (hz:=by seq_fits) u1 rfl ?_;have u2:=aap (Obj.mapSeq (·.pop)) u1 rfl;refine Ws ⟨plainId_quiet PySem.F.plain_extend_loop _,aa6 (fin _ s.toks _ ?_ (λb o M e=>?_) u2) λr p q=>?_⟩
  .refine(W A.in1 (by simpa using hh)).frame 0 _ _ st λb M o e=>?_;have T7:b≠s.heap.objs.size:=λz=>B (z▸M);exact(aaB _ _ (aav T7)).trans ((aaB _ _ (aav T7)).trans e)
  .exact(aaB _ _ (aav M)).trans ((aaB _ _ (aav M)).trans e)
  .obtain⟨h',g,f,l,rfl,rfl,G,H,J⟩:=q;exact done h' g f l G H J
 .refine Ws ⟨plainId_quiet PySem.F.plain_extend_loop _,aa6 (fin _ s.toks 0 st (λb o _ e=>e) Oq) λr p q=>?_⟩;obtain⟨h',g,f,l,rfl,rfl,G,H,J⟩:=q;exact done h' g f l G H J
def BH{a:Addr}{ks:List Key}{ns:Kk}{Q:Φ}(S:SW P w s.heap a ks)(hh:A.handled=none)(hk:ks=ns.map Sum.inl)(h64:ns.length<64)(h:∀(h1 h2:Heap) (tk:Nat) d (out:Array Value) (Z:Kk) (e:Nat),(∀b o,s.heap.get? b=some o->h1.get? b=some o)->(∀b o,h1.get? b=some o->h2.get? b=some o)->h2.get? h1.objs.size=some (seqObj "list" out e)->IntsAre out.toList Z->Z.Perm ns->Z.Pairwise (·<=·)->Q (.ref h1.objs.size) { s with heap:=h2,toks:=tk,drawn:=d }):
  wpAny (model P w) A (call (.builtin "sorted") [.ref a]) Q E s:=by
 refine Calls.call_function_entry kind_sorted plain_sorted entry_sorted (args_sorted1 _) ?_;unfold Builtin.«sorted»;refine gH (m:=checkCount "sorted" 1 1 _) (Ws ?_);refine gH (zb (A:=A.in1) hh S λg tk d c k f G=>?_);have y:c.length=ns.length:=by
  have:=f.length_eq;rw[hk]at this;simpa using this
 have j:c.length<=sizeLine:=ZL (ab2 (by rw[y];exact h64)) (by decide);refine gH (wpAny_newList ?_ j);obtain⟨is,hI,hp⟩:∃is:Kk,IntsAre c is/\is.Perm ns:=by
  have:∀c:W1,(∀v∈c,Ky v)->(∀k∈c.map dW,∃i:Int,k=Sum.inl i)->∃is:Kk,IntsAre c is/\c.map dW=is.map Sum.inl:=by
   intro c;induction c with
   |nil=>intro _ _;exact⟨[],.nil,rfl⟩
   |cons v c H=>
    intro B C;obtain⟨is,l,p⟩:=H (λv I=>B v (by simp[I])) (λk hk=>C k (by simp at hk ⊢;exact .inr hk));have:=B v (by simp);cases this with
    |i n t=>exact⟨n :: is,.cons n t l,by simp[dW,p]⟩
    |s x t=>
     obtain⟨i,z⟩:=C (.inr x) (by simp[dW]);cases z
  obtain⟨is,l,p⟩:=this c G λk q=>by
   have:=f.mem_iff.mp q;rw[hk]at this;obtain⟨i,_,rfl⟩:=List.mem_map.mp this;exact⟨i,rfl⟩
  refine⟨is,l,?_⟩;rw[p,hk]at f;have:=f.filterMap (λk:Key=>match k with|.inl i=>some i|.inr _=>none);have J:((λk:Key=>match k with|.inl i=>some i|.inr _=>none) ∘ (Sum.inl:Int->Key))=some:=rfl;rw[List.filterMap_map,List.filterMap_map,J,List.filterMap_some,List.filterMap_some]at this;exact this
 have r:(g.push (seqObj "list" c.toArray 0)).get? g.objs.size=some (seqObj "list" c.toArray 0):=ZM _ rfl;refine gH (aan (aax slot_list_sort ⟨_,r,rfl⟩ entry_list_sort (list_sort_tree r hI (by rw[y];exact h64) λout Z K L M=>⟨_,rfl,?_⟩) (args_list_sort _)));obtain⟨e,N⟩:=sortedHeap_at (out:=out) r;exact Ws ⟨_,rfl,h g _ tk d out Z e k (λb o F=>by
  have lt:=ZI F;rw[sortedHeap_old (ZR lt) (by rw[size_push'];exact Nat.lt_succ_of_lt lt),Heap.get?_push_ne _ _ _ (ZR lt)];exact F) N K (L.trans hp) M⟩
end
def DI{X:Cx}{pins:Ω}{σ:L2.St}{H:Hp}{s:Shared}{d:Drawn}(I:Inv X pins σ H s):Inv X pins σ H { s with drawn:=d }:=
 ⟨I.ok,I.os,I.bare,I.base,I.loc,I.cell,I.free,I.gk,I.pin,I.hok,I.len⟩
theorem vC:∀{vs:W1}{is:Kk}(ns:Kk),IntsAre vs is->ja (ns.map Sum.inl) vs=(is.foldl (λa k=>if k∈a then a else a++[k]) ns).map Sum.inl
 |_,_,ns,.nil=>rfl
 |_,_,ns,.cons n t h=>by
  have e:gy (ns.map Sum.inl) (dW (.int n t))=(if n∈ns then ns else ns++[n]).map Sum.inl:=by
   show gy (ns.map Sum.inl) (Sum.inl n)=_;unfold gy;by_cases q:n∈ns
   .rw[gV (List.mem_map.mpr ⟨n,q,rfl⟩),gV q]
   .rw[Yl (λz=>by obtain⟨x,b,c⟩:=List.mem_map.mp z;cases c;exact q b),Yl q,ZQ];rfl
  show ja (gy (ns.map Sum.inl) (dW (.int n t))) _=_;rw[e,vC _ h];rfl
theorem Ag:∀{vs:W1}{is:Kk},IntsAre vs is->∀v∈vs,Ky v
 |_,_,.nil,v,h=>by cases h
 |_,_,.cons n t h,v,a=>by
  rcases qE a with rfl|a
  .exact .i n t
  .exact Ag h v a
section
variable{X:Cx}{G:Tb}{n:Nat}{sc:Scope}{N:Y1}{df:Bool}{m:Ξ}{a:E}{xa:Expr}{pos:Pos}
def Gs{p p2 pos2:Pos}(ha:JE G n sc N df m a xa)(h1:("sorted":Str)∈G.bl:=by decide)(Dp:sc.names.lookup ("sorted":Str)=some .globalImplicit:=by rfl)(hg:sc.names.lookup ("set":Str)=some .globalImplicit:=by rfl)(hb:("set":Str)∈G.bl:=by decide)(hst:∀env:Env,starEach [xa] env=[(false,eval xa env)]:=by intro _;rfl)(xB:∀env:Env,starEach [Expr.Call (.Name "set" p2) [xa] [] pos2] env=[(false,eval (Expr.Call (.Name "set" p2) [xa] [] pos2) env)]:=by intro _;rfl):
  JE G n sc N df m (.bi .kQ (.cons a .nil)) (.Call (.Name "sorted" p) [.Call (.Name "set" p2) [xa] [] pos2] [] pos):=λX g=>by
 intro b s σ H Q I q;obtain⟨r,fr,h,d,h',sr,hr,e,q⟩:=q;rw[Ev.ev]at e;obtain⟨ds,F,J,e⟩:=Ev.ai e;refine aao (jN I (g.gl Dp) (g.bl _ h1) (show bootBuiltins ("sorted":Str)=some (.builtin "sorted")by decide) ?_ (by decide) (by decide));refine PyProof.Rows.callWith_builtin1 ?_ (xB _) rfl;rw[xB];show wpAny _ _ (spliced ((false,eval (Expr.Call (.Name "set" p2) [xa] [] pos2) X.env) :: backTo pos [])) _ _ s;refine aaC ?_;have Dv:PA X [xa] _:=jq (ha X g) lU (by show _=_;rw[hst];rfl);rw[Ev.bY]at J;obtain⟨x,h4,e3,L⟩:=Ev.ai J;rw[Ev.bY]at L;cases L;refine Call_ (jN I (g.gl hg) (g.bl _ hb) (show bootBuiltins ("set":Str)=some (.type "set")by decide) (aaE (bI (Dv pos2 b s σ H (λM H1=>∃f u,M=[u]/\RV X.K H1 f x u/\HR X.K H1 f F/\Fm X.K r f H H1) I ⟨r,fr,h,x,F,sr,hr,e3,λu H1 f y c f1=>⟨f,u,rfl,y,c,f1⟩⟩) λus s1 z=>?_) (hst _) rfl));obtain⟨M,H1,I1,rv,f,u,rfl,y,c,f1⟩:=z;have hx:∃i,x=.ref i:=by
  cases x<;>first|exact⟨_,rfl⟩ | (exfalso;delta Ev.cQ at e;dsimp only at e;cases e)
 obtain⟨i,rfl⟩:=hx
 delta Ev.cQ at e;dsimp only at e
 split at e
 case h_2=>cases e
 rename_i P e1;split at e
 case isFalse=>cases e
 rename_i A;obtain⟨ds,e5,e6⟩:=Option.bind_eq_some_iff.mp e1;obtain⟨t,rfl,z⟩:=y.shape;obtain⟨t',ws,W,q1,w⟩:=c.read e5;rw[z]at W;cases W;cases rv with
 |cons ra rb=>
 cases rb;cases ra;obtain⟨j,pv,pl,hz⟩:=I1.list q1;have B:=ua e6 w pv;have l:j.toArray.size+1<scanBound:=by
  have:=B.length;rw[ZC];unfold scanBound;omega
 refine Gn (I1.ok.hd g.calm) pl.isList (by simpa using Ag B) l λY T8 S5 k5=>?_;refine aaY ?_;have I2:Inv X b σ H1 { s1 with heap:=Y,toks:=T8 }:=I1.kept k5;have hk:ja [] j.toArray.toList=(Ev.dd P).map Sum.inl:=by
  have:=vC [] B;simpa[Ev.dd]using this
 refine BH (s:={ s1 with heap:=Y,toks:=T8 }) S5 (I1.ok.hd g.calm) hk A.2 λZ h7 tk d' out ns' e7 c1 c2 c3 a1 a2 a3=>?_;have hq:=rM a2 a3;subst hq;obtain⟨C,q2⟩:=(q.later f1).lst e aT.Gd c;have I6:Inv X b σ H1 { s1 with heap:=Z,toks:=tk,drawn:=d' }:=DI (I2.kept (t':=tk) c1);refine⟨.ref Z.objs.size,_,I6.laid (t':=tk) (o:=.lst ((Ev.sortI (Ev.dd P)).map V.int)) c2 (Zw _) ?_,rfl,q2 _ (I6.hok.fresh (Zw _))⟩;exact⟨C,out.toList,e7,uc a1,by simpa[seqObj]using c3⟩
end
end Sm
namespace Sm
open PySem PySem.Spec PyProof.Rows L2 PySem.W
def XI(h:Heap)(x C:Addr):Prop:=∃ox:Obj,h.get? x=some ox/\ox.cls=.ref C/\∃vs,ox.data=.fields vs
structure XC(K:Ψ)(C:Addr):Prop where
 ob:∃nm q N bs bm hdct sn sub ab col dd k0 k1 k2 k3 k5 newId,K.lookup C=some (excClassObj nm q C N bs bm hdct sn sub ab col dd k0 k1 k2 k3 k5 newId)/\∀h:Heap,K.In h->OwnTailQ h [.type "ValueError",.type "Exception",.type "BaseException",.type "object"] bm
 ga:findIn K (.ref C) "__getattribute__" = some (some (.builtin "BaseException.__getattribute__"))
 gh:findIn K (.ref C) "__getattr__" = some none
 cl:findIn K (.ref C) "__class__" = some (some (.builtin "object.__class__"))
 so:subIn K (.ref C) (.type "object")=some true
 me:kitCls K (.ref C) (.ref C)=some true
section
variable{prog:Program}{w:World}{A:Around}{E:Φ}{s:Shared}{K:Ψ}{x C:Addr}
def pG{M:Model}{h:Heap}(i:XI h x C):Looks M h (typeOf (.ref x)) (.ref C):=λA Q E s k q=>by
 obtain⟨c,a,b,_⟩:=i;exact wpAny_typeOf_ref (k _ _ a) (by rw[b];exact q)
def Ot{R:Result->Shared->Prop}{z:Value}(dF:K.In s.heap)(i:XI s.heap x C)(so:subIn K (.ref C) (.type "object")=some true)(h:R (.ok (.ret (.ref C))) s):
  codeAny (model prog w) A (.call (.builtin "getset_descriptor.__get__") ⟨[.builtin "object.__class__",.ref x,z],[]⟩) R s:=by
 refine codeAny_call_builtin (by decide) KF.entry_gs (KF.slot_gs.check _ _ _ _ _ _ _ _ KF.type_class (KF.args_gs _ _ _) ?_);unfold Builtin.«getset_descriptor.__get__» Builtin.Getset_descriptor.descrGet;rw[dga_obj];show wpAny _ _ (do Builtin.Getset_descriptor.descrCheckInstance (.builtin "object.__class__") (.ref x);again _) _ _ _;refine gH ?_;unfold Builtin.Getset_descriptor.descrCheckInstance;have a:Builtin.Getset_descriptor.descrNameAndClass (.builtin "object.__class__")=pure (("__class__":Str),Value.type "object"):=by kernel_rfl
 rw[a];show wpAny _ _ (do let b <-isInstance (.ref x) (.type "object");_) _ _ _;refine gH ?_;unfold isInstance;refine gH (pG i _ _ _ _ (λ_ _ e=>e) ?_);refine looks_subIn dF so _ _ _ _ (λ_ _ e=>e) ?_;refine Ws ?_;refine Ws ⟨by kernel_rfl,?_⟩;refine codeAny_builtin KF.entry_class ?_;show wpAny _ _ (do let t <-shownTypeOf (.ref x);ret t) _ _ _;refine gH ?_;unfold shownTypeOf;refine gH (pG i _ _ _ _ (λ_ _ e=>e) ?_);refine Ws ?_;exact Ws h
def KD{M:Model}{h:Heap}(dF:K.In h)(cl:findIn K (.ref C) "__class__" = some (some (.builtin "object.__class__"))):Looks M h (Builtin.ObjectAttr.find (.ref x) (.ref C) "__class__") (.bind (.builtin "getset_descriptor.__get__") (.builtin "object.__class__")):=λA Q E s k q=>by
 unfold Builtin.ObjectAttr.find;refine gH (ab1 dF cl _ _ _ _ k ?_);refine gH ?_;show wpAny _ _ (specialOf _ _) _ _ _;unfold specialOf;rw[KF.type_class];show wpAny _ _ (typeLookup (.type "getset_descriptor") _) _ _ _;refine ab1 dF (K:=K) (t:=.type "getset_descriptor") (r:=some (.builtin "getset_descriptor.__get__")) (by kernel_rfl) _ _ _ _ k ?_;refine gH ?_;show wpAny _ _ (do let b <-Builtin.ObjectAttr.takesStores _;_) _ _ _;refine gH ?_;unfold Builtin.ObjectAttr.takesStores;refine gH ?_;unfold specialOf;rw[KF.type_class];show wpAny _ _ (typeLookup (.type "getset_descriptor") _) _ _ _;refine ab1 dF (K:=K) (t:=.type "getset_descriptor") (r:=some (.builtin "getset_descriptor.__set__")) (by kernel_rfl) _ _ _ _ k ?_;refine Ws ?_;refine Ws ?_;exact gH (abV (Ws q))
def Gu{Q:Option Value->Shared->Prop}(c:XC K C)(dF:K.In s.heap)(i:XI s.heap x C)(h:Q (some (.ref C)) { s with toks:=s.toks+1 }):wpAny (model prog w) A (getAttr? (.ref x) "__class__") Q E s:=by
 obtain⟨⟨y,q,N,bs,z,b,B,sub,G,d,dd,k0,k1,k2,k3,H,a,f,g⟩,j,l,cl,o,I⟩:=c;obtain⟨J,i1,i2,_⟩:=id i;unfold getAttr?;refine gH (wpAny_mkText ?_);unfold getAttrBy?;refine gH (aa4 ?_);unfold getAttrBy;refine aan (gH (pG i _ _ _ _ (λ_ _ e=>e) ?_));refine gH (ab1 dF j _ _ _ _ (λ_ _ e=>e) ?_);show wpAny _ _ (getAttrByItsOwn _ _ _ _ _ _) _ _ _;unfold getAttrByItsOwn;refine gH (looks_hook dF (mc:=.ref C) (r:=none) l _ _ _ _ (λ_ _ e=>e) ?_);refine gH (aa4 (aan ?_));show wpAny _ _ (boundAndCalled _ _ _) _ _ _;unfold boundAndCalled;rw[PySem.F.attrBase_ValueError.ga.bind];show wpAny _ _ (call (.builtin "BaseException.__getattribute__") [.ref x,.str "__class__" s.toks]) _ _ _;refine abv (codeAny_call_builtin (by decide) PySem.F.entry_bexc_ga (wpAny_check_ga_own PySem.F.attrBase_ValueError (dF _ _ f) (g _ dF) i1 i2 ?_));unfold Builtin.«object.__getattribute__»;have p:slotArgs "__getattribute__" 1 ⟨[.ref x,.str "__class__" s.toks],[]⟩=pure (Value.ref x,[Value.str "__class__" s.toks]):=rfl;rw[p];show wpAny _ _ (do let tp <-typeOf (.ref x);_) _ _ _;refine gH (pG i _ _ _ _ (λ_ _ e=>e) ?_);refine gH (KD dF cl _ _ _ _ (λ_ _ e=>e) ?_);show wpAny _ _ (do let r <-holding _ (call _ _);ret r) _ _ _;refine gH (aan (abv (Ot dF i o ?_)));refine Ws ?_;refine Ws ?_;exact Ws h
def Ou(c:XC K C):KitX K (.ref x) (.ref C) (λh=>XI h x C):=by
 refine⟨λM h a i=>pG i,λM h a _=>(kit_cls a c.me).2.1,λh f dd g n o a e=>?_,λ{prog w A E Q s} a i hq=>Gu c a i hq⟩;by_cases z:C=f
 .subst z;obtain⟨p,q,N,bs,r,d,y,sub,B,j,dd,k0,k1,k2,k3,F,b,l,G⟩:=c.ob;have:=a _ _ l;rw[e]at this;have z:=ZJ Obj.cls (ZP this);injection z with z
  exact absurd z (by decide)
 .simpa using z
def Ov(c:XC K C){D:Value}{b:Bool}(dF:K.In s.heap)(i:XI s.heap x C)(e:kitOne K (.ref C) D=some b){Q:Φ}(h:∀tk,Q (.bool b) { s with toks:=tk }):
  wpAny (model prog w) A (call (.builtin "isinstance") [.ref x,D]) Q E s:=kia_one (Ou c) dF i e (λz=>nomatch z) h
end
def Ip(l:List Env)(H':Hp)(h g B:Heap):Prop:=∀b o,g.get? b=some o->((H' b).isSome=true\/(h.get? b).isSome=true)->b∉frs l->B.get? b=some o
structure iJ(P:Program)(w:World)(l:List Env)(H:Hp)(s:Shared)(a C:Addr)(H':Hp)(s':Shared):Prop where
 os:s'.os=s.os
 bare:AllBare s'.gens
 un:Un (frs l) [] H H' s.heap s'.heap
 hok:dS P w H' s'.heap
 fl:∃B a0,Heap.FlyingW B l a (.ref C) a0 s'.heap/\Ip l H' s.heap s'.heap B
def rN(P:Program)(w:World):lV:=λb H s E e c=>∃a C H',e=.ref a/\iJ P w b H s a C H' c/\E (.ref C) none H'
def DJ(x:dH P w H h a o):∃ob,h.get? a=some ob:=by
 cases o with
 |lst xs=>obtain⟨_,_,_,_,e⟩:=x;exact⟨_,e⟩
 |tup xs=>obtain⟨_,_,_,ob,e,_⟩:=x;exact⟨_,e⟩
 |dK b=>obtain⟨_,_,_,_,o,_,_,e,_⟩:=x;exact⟨_,e⟩
 |dT b=>obtain⟨_,_,_,_,o,_,_,e,_⟩:=x;exact⟨_,e⟩
 |set S n=>obtain⟨o,_,_,_,e,_⟩:=x;exact⟨_,e⟩
 |ins C c fs=>obtain⟨_,_,_,e,_⟩:=x;exact⟨_,e⟩
 |own y=>obtain⟨_,e⟩:=x;exact⟨_,e⟩
 |xd fs=>obtain⟨_,⟨_,_,_,e,_⟩,_⟩:=x;exact⟨_,e⟩
 |jM d g=>obtain⟨_,_,_,e⟩:=x;exact⟨_,e⟩
 |bQ ob u=>obtain⟨e,_⟩:=x;exact⟨_,e⟩
 |uI ps=>exact⟨_,(show h.get? a=some _ from x)⟩
 |met f y=>exact⟨_,(show h.get? a=some _ from x)⟩
 |ext φ=>obtain⟨_,e,_⟩:=x;exact e
def qF(u:Un (frs l) [] H H' h g)(hok:dS P w H' g)(I:Ip l H' h g B)(st:Heap.StaysIn B g2)(Z:∀b∈frs l,∀o,g.get? b=some o->∃sl,g2.get? b=some { o with slots:=sl })(hb:∀b∈frs l,H' b=none):
  Un (frs l) [] H H' h g2/\dS P w H' g2/\Ip l H' h g2 B:=by
 have c:=λb o e z n=>st b o (I b o e z n);refine⟨⟨λb o e n f p=>c b o (u.keep b o e n f p) (.inr (by rw[e];rfl)) f,λb o e n f p=>?_,u.free,λb o e p=>?_,u.tups,u.kr,u.lg⟩,λa o e=>?_,λb o e z n=>?_⟩
 .obtain⟨sl,d⟩:=u.slot b o e n f p;obtain⟨r,i⟩:=Z b f _ d;exact⟨r,i⟩
 .obtain⟨j,d⟩:=u.there b o e p;by_cases f:b∈frs l
  .obtain⟨sl,i⟩:=Z b f _ d;exact⟨_,i⟩
  .exact⟨j,c b j d (.inr (by rw[e];rfl)) f⟩
 .refine(hok a o e).stay (λb v z q=>?_) (λ_ q=>q) λ_ _ q=>q;have tr:(H' b).isSome=true:=by
   rcases z with z|z
   .rw[z,e];rfl
   .rw[z];rfl
  exact c b v q (.inl tr) λf=>by rw[hb b f]at tr;exists tr
 .have ex:∃j,g.get? b=some j:=by
   rcases z with z|z
   .obtain⟨x,d⟩:=gN z;exact DJ (hok b x d)
   .obtain⟨x,d⟩:=gN z;exact u.there b x d (by simp)
  obtain⟨j,d⟩:=ex;have i:=c b j d z n;rw[e]at i;cases i;exact I b o d z n
section
variable{X:Cx}{pins:Ω}{σ:L2.St}{H H':Hp}{s s':Shared}{a C:Addr}
def qG(I:Inv X pins σ H s)(u:Un (frs X.stack) [] H H' s.heap s'.heap):∀b∈frs X.stack,H' b=none:=λb c=>by
 obtain⟨_,o,d,_⟩:=I.stack.mem c;exact u.free b o d (I.tO b c) (by simp)
def vD(Z:X.ex=[])(hs:X.stack=X.env :: X.outer)(I:Inv X pins σ H s)(os:s'.os=s.os)(bare:AllBare s'.gens)(u:Un (frs X.stack) [] H H' s.heap s'.heap)(hok:dS X.prog X.w H' s'.heap)(nF:Ip X.stack H' s.heap s'.heap B)(ff:∀b∈frs X.stack,∃o,s'.heap.get? b=some o/\∀vs,o.data≠.fields vs)(fl:Heap.FlyingW B X.outer a (.ref C) a0 g2)(up:Heap.UpToSlots s'.heap g2):iJ X.prog X.w X.outer X.H₀ X.s₀ a C H' { s' with heap:=g2 }:=by
 obtain⟨i,h,j⟩:=qF u hok nF fl.1 (λb d o e=>by
  obtain⟨l,c,f⟩:=ff b d;rw[e]at c;cases c;exact up b o e f) (qG I u)
 have I2:=I.A2 (s':={ s' with heap:=g2 }) os i h bare (λb z=>absurd z (by simp));refine⟨os.trans I.os,bare,by have:=I2.base;rw[Z]at this;exact this,h,B,a0,fl,λb o e z n=>?_⟩;have g:b≠X.env.locals:=λy=>by
  rcases z with z|z
  .rw[y,I2.free]at z;exists z
  .obtain⟨x,c⟩:=gN z;rw[y]at c;exact absurd (ZI c) (Nat.not_lt.mpr I.ok.above)
 refine j b o e (z.imp id λz=>?_) λd=>?_
 .obtain⟨x,c⟩:=gN z;obtain⟨p,f⟩:=I.base.there b x c (by rw[Z];simp);rw[f];rfl
 .rcases qE (I.qX b d)with y|y
  .exact g y
  .exact n y
theorem rP:∀{l:List Env}{h base B:Heap},Heap.FunFrames h base l->(∀b∈frs l,B.get? b=none)->Heap.FunFrames h B l
 |[],_,_,_,_,_=>trivial
 |env :: r,h,base,B,hl,n=>by
  obtain⟨d,⟨L,o,c,j,e,f⟩,g⟩:=hl;exact⟨d,⟨L,o,c,n L (by unfold frs;rw[ZZ,c];exact ZX),e,f⟩,rP g λb i=>n b (by unfold frs;rw[ZZ,c];exact ZN _ i)⟩
def Gv(Z:X.ex=[])(z:X.stack=X.env :: X.outer)(hf:X.env.frame=some X.env.locals)(I:Inv X pins σ H s)(f:iJ X.prog X.w X.stack H s a C H' s')(q:∀s'',iJ X.prog X.w X.outer X.H₀ X.s₀ a C H' s''->Q () s''):
  wpAny (model X.prog X.w) X.A (leaving X.env (.ref a)) Q E s':=by
 obtain⟨d,bare,un,c,B,l,fl,e⟩:=f;have g:∀b∈frs X.stack,∃o,s'.heap.get? b=some o/\∀vs,o.data≠.fields vs:=λb h=>(fl.2.2.1.mem h).2;rw[z]at fl;exact wpAny_leaves_onW (by rw[I.ok.frames,z]) hf fl λp i j=>q _ (vD Z z I d bare un c e g i j)
def BJ(Z:X.ex=[])(z:X.stack=X.env :: X.outer)(hf:X.env.frame=some X.env.locals)(I:Inv X pins σ H s)(m:Heap.MadeExcOf s.heap h1 a (.ref C) args)(q:∀s'',iJ X.prog X.w X.outer X.H₀ X.s₀ a C H s''->Q () s''):
  wpAny (model X.prog X.w) X.A (leaving X.env (.ref a)) Q E { s with heap:=h1 }:=by
 have cut:∀b∈frs X.stack,(hideAll s.heap (frs X.stack)).get? b=none:=λb c=>hideAll_none _ c;have Ow:=rP I.stack cut;have d:∀b∈frs X.stack,∃o,s.heap.get? b=some o/\∀vs,o.data≠.fields vs:=λb c=>(Ow.mem c).2;refine wpAny_leaves_madeW (base:=hideAll s.heap (frs X.stack)) (by rw[I.ok.frames,z]) hf (λb o e=>of_hideAll _ e) (by rw[z]at Ow ⊢;exact Ow) m λi t f _ _ g=>q _ ?_;have:=vD Z z I rfl I.bare Un.refl I.hok (λb o e _ n=>hideAll_get _ e n) d f λb o e h=>g b o (m.keeps b o e) h;exact this
def iJ.inv(f:iJ X.prog X.w X.stack H s a C H' s')(I:Inv X pins σ H s):Inv X pins σ H' s':=I.A2 f.os f.un f.hok f.bare (λb z=>absurd z (by simp))
def iJ.xi(f:iJ P w l H s a C H' s'):XI s'.heap a C:=by
 obtain⟨B,h,fl,_⟩:=f.fl;obtain⟨b,c,T,i,j,d,e,g,_⟩:=fl.2.2.2;exact⟨b,d,e.1,c,g⟩
def iJ.new(f:iJ P w l H s a C H' s'):a∉frs l/\H' a=none:=by
 obtain⟨d,b,p,e,g⟩:=f.xi;obtain⟨B,q,fl,h⟩:=f.fl;have n1:a∉frs l:=λi=>by
  obtain⟨_,o,c,j⟩:=fl.2.2.1.mem i;rw[b]at c;exists c;exact j e g
 refine⟨n1,?_⟩;cases z:H' a with
 |none=>rfl
 |some x=>
  have:=h a d b (.inl (by rw[z];rfl)) n1;rw[fl.2.1]at this;exists this
def iJ.on(f:iJ P w l H s a C H' s')(I:∀b∈frs l,H' b=none)(q:∀s'',iJ P w l H s a C H' s''->Q () s''):wpAny M A (setFlight (.ref a) none) Q E s':=by
 obtain⟨g,bare,un,c,B,h,fl,i⟩:=f;refine lands_againW fl λF DK j=>q _ ?_;obtain⟨p,r,y⟩:=qF un c i DK.1 (λb I o e=>by
  obtain⟨_,G,d,z⟩:=fl.2.2.1.mem I;rw[e]at d;cases d;exact j b o e z) I
 exact⟨g,bare,p,r,B,h,DK,y⟩
def BK(I:Inv X pins σ H s)(f:iJ X.prog X.w X.stack H s a C H' s')(Z:X.stack=X.env :: X.outer)(hf:X.env.frame=some X.env.locals){Q:Unit->Shared->Prop}{E:Φ}(q:∀s'',iJ X.prog X.w X.stack H s a C H' s''->Q () s''):wpAny (model X.prog X.w) X.A (noteFrame (.ref a) X.env) (λ_ s₂=>wpAny (model X.prog X.w) X.A (setFlight (.ref a) none) Q E s₂) E s':=by
 obtain⟨p,bare,un,c,B,r,fl,y⟩:=f;have z:∀b∈frs X.stack,∃o,s'.heap.get? b=some o/\∀vs,o.data≠.fields vs:=λb d=>(fl.2.2.1.mem d).2;have F:=qG I un;rw[Z]at fl;refine wpAny_looks_onW (by rw[I.ok.frames,Z]) hf fl λN g h=>wpAny_landsW g λP DK Xv=>q _ ?_;obtain⟨G,J,K⟩:=qF un c y DK.1 (λb d o e=>by
  obtain⟨W,j,l⟩:=z b d;rw[e]at j;cases j;obtain⟨Y,L⟩:=h b o e l;obtain⟨i,M⟩:=Xv b _ L l;exact⟨i,M⟩) F
 exact⟨p,bare,G,J,B,r,by rw[Z];exact DK,K⟩
end
section
variable{X:Cx}
def Ox(h:PE X e t)(w:∀s H Q,t' s H Q->t s H Q):PE X e t':=λpins s σ H Q I q=>h pins s σ H Q I (w _ _ _ q)
def KG{st:List Stmt}(h:gm X st t)(w:∀D σ H,t' D σ H->t D σ H):gm X st t':=λpins s σ H D I q=>h pins s σ H D I (w _ _ _ q)
structure Xw(K:Ψ)(C D0:Addr)(c:Nat):Prop where
 xc:XC K C
 k0:kitOne K (.ref C) (.ref D0)=some true
 kv:kitOne K (.ref C) (.type "ValueError")=some true
 c0:c=0
end
section
variable{X:Cx}{pins:Ω}{σ:L2.St}{H:Hp}{s s':Shared}
def DL(I:Inv X pins σ H s)(hN:X.N.Nodup)(hi:X.N[i]?=some x)(hk:X.env.scope.names.lookup x=some .local)(hv:σ[i]?=some (some v))(h:∀s',Inv X pins (σ.set i none) H s'->Q () s'):wpAny M A (unbindName X.env x) Q E s:=by
 obtain⟨m,L,P⟩:=id I.loc;have l:(X.env.scope.kind==.class || (X.env.scope.kind==.module&&X.env.locals != X.env.globals))=false:=by rw[I.ok.kind];rfl
 have nG:=I.nG;obtain⟨u,r,q⟩:=P i x v hi hv (.inl hk);have hm:m x=some u:=by
  rcases q with ⟨_,e⟩|⟨k,_⟩
  .exact e
  .rcases k with k|k
   .rw[show X.env.kindOf x=X.env.scope.names.lookup x from rfl,hk]at k;cases k
   .rw[show X.env.kindOf x=X.env.scope.names.lookup x from rfl,hk]at k;cases k
 refine wpAny_unbindName_local hk L hm l λh' W G f=>?_;obtain⟨oL,_,_,pW,_⟩:=id L;have a:=λb ob e=>by
  refine(I.hok b ob e).stay (λc Y C q=>(f.2 c ?_).trans q) (λ_ q=>q) λ_ _ q=>q;rintro rfl;rcases C with rfl|C
  .rw[I.free]at e;exists e
  .rw[I.free]at C;exists C
 refine h _ ⟨I.ok,I.os,I.bare,⟨λb o e n J B=>?_,λb o e n J B=>?_,I.base.free,λb o e B=>?_,I.base.tups,I.base.kr,I.base.lg⟩,⟨_,G,λj y v' g F e3=>?_⟩,λy c e=>?_,I.free,I.gk,λp hp=>?_,a,by simpa using I.len⟩
 .exact(f.2 b (ZR (Uv (ZI e) I.ok.above))).trans (I.base.keep b o e n J B)
 .obtain⟨sl,g⟩:=I.base.slot b o e n J B;exact⟨sl,(f.2 b (ZR (Uv (ZI e) I.ok.above))).trans g⟩
 .obtain⟨o',g⟩:=I.base.there b o e B;exact⟨o',(f.2 b (ZR (Uv (ZI e) I.ok.above))).trans g⟩
 .have AZ:i<σ.length:=by rw[I.len];exact(gL hi).1
  by_cases K:j=i
  .subst K;rw[Jb AZ]at F;cases F
  .rw[AN (aav K)]at F;obtain⟨W,r',q⟩:=P j y v' g F e3;refine⟨W,r',?_⟩;rcases q with ⟨k,e⟩|⟨k,c,e,z⟩
   .refine .inl ⟨k,?_⟩;have:y≠x:=λe=>K (qo hN g (e▸hi));simp[this,e]
   .exact .inr ⟨k,c,e,z.sameBut f (nG y c e)⟩
 .obtain⟨Y,z⟩:=I.cell y c e;exact⟨Y,z.sameBut f (nG y c e)⟩
 .obtain⟨e,n,Z,nf,d⟩:=I.pin p hp;exact⟨(f.2 p.1 Z).trans e,n,Z,nf,d⟩
end
end Sm
namespace Sm
open PySem PySem.Spec PyProof.Rows L2
open Ev (D O Hh Fr R aE E Es Eo It T S Ss Fl Src bA br TY BI ME)
abbrev Iq:W1:=[.type "ValueError",.type "Exception",.type "BaseException",.type "object"]
def DM(K:Ψ)(C:Addr):Prop:=∃nm q N bs bm hdct sn sub ab col dd k0 k1 k2 k3 k5,K.lookup C=some (excClassObj nm q C N bs bm hdct sn sub ab col dd k0 k1 k2 k3 k5 "ValueError.__new__")/\bm.contains (.type "BaseException")=true/\∀h:Heap,K.In h->∃mN,h.Ns N mN/\mN "__init__" = none/\OwnTail h Iq bm
def xQ(K:Ψ)(cl:Nat->Addr)(F:List Ev.Fn)(w n f:Nat):Sp:=λa H Q E=>∃r h ds c h',aT K H r ds a/\HR K H r h/\Ev.dP F w n f ds h=some (c,h')/\∀H' r',HR K H' r' h'->Fm K r r' H H'->E (.ref (cl c)) none H'
def Xx{G:Tb}{f:Nat}{i:FI}(e:G.fi[f]?=some i):
 G.fi[f]?=some i:=e
inductive tX(K:Ψ)(cl:Nat->Addr)(m:Ξ)(E:XK)(f:Fr->Hh->Ev.XR)(s:L2.St)(H:Hp):Prop
 |mk (r:Y2) (fr:Fr) (h:Hh) (c:Nat) (h':Hh) (sr:SR K m H r fr s) (hr:HR K H r h) (e:f fr h=some (c,h')) (q:∀H' r',HR K H' r' h'->Fm K r r' H H'->E (.ref (cl c)) none H'):tX K cl m E f s H
structure GX(G:Tb)(cl:Nat->Addr)(gR:List (Str×Nat))(rz su:Ξ)(n:Nat)(sc:Scope)(N:Y1)(df:Bool)(E:XK)(X:Cx):Prop where
 g:Good G n sc N df X.iR
 own:PassesOwn (model X.prog X.w) X.A X.env X.xe
 ps:Passes (rN X.prog X.w) X E
 md:∀(pins:Ω) (σ:L2.St) (H:Hp) (s:Shared) (h1:Heap) (e C:Addr) (args:W1),Inv X pins σ H s->Heap.MadeExcOf s.heap h1 e (.ref C) args->E (.ref C) none H->X.xe (.ref e) { s with heap:=h1 }
 fn:∀(f:Nat) i,
  G.fi[f]?=some i
  ->su.contains f=true->fc X.prog X.w X.K X.mg X.base (rN X.prog X.w) n i.addr i.fd i.ps (xQ X.K cl G.F G.w n f)
 nz:∀f,rz.contains f=false->∀ds h,Ev.dP G.F G.w n f ds h=none
 cs:∀x c,(x,c)∈gR->X.mg x=some (.ref (cl c))/\DM X.K (cl c)
theorem PS.iR{st:Stmt}(h:PS X.iR st t):PS X st t:=λpins s σ H D I hw=>
 ZT (h pins s σ H D (I.jZ _) hw) (λ_ _ q=>q.gX) λ_ _ z=>False.elim z
section
variable(G:Tb)(cl:Nat->Addr)(gR:List (Str×Nat))(rz su:Ξ)(n:Nat)(sc:Scope)(N:Y1)(df:Bool)(m:Ξ)
def Oz(st:S)(x:Stmt):Prop:=∀X Ex,GX G cl gR rz su n sc N df Ex X->PS X x (λ_ s H=>tX X.K cl m Ex (Ev.xs (Ev.run G.F G.w n) (Ev.dP G.F G.w n) G.w st) s H)
def qH(ss:Ss)(xs:List Stmt):Prop:=∀X Ex,GX G cl gR rz su n sc N df Ex X->gm X xs (λ_ s H=>tX X.K cl m Ex (Ev.xss (Ev.run G.F G.w n) (Ev.dP G.F G.w n) G.w ss) s H)
end
section
variable{G:Tb}{cl:Nat->Addr}{gR:List (Str×Nat)}{rz su:Ξ}{n:Nat}{sc:Scope}{N:Y1}{df:Bool}{m:Ξ}{a b:E}{xa:Expr}{pos:Pos}
def uf(h:Ev.nT rz s=true):qH G cl gR rz su n sc N df m s xs:=λX Ex g pins s σ H Q I q=>by
 obtain⟨r,d,f,c,i,j,l,e,q⟩:=q;rw[Ev.rE g.nz _ h]at e;exists e
def KH(hc:JT G n sc N df m a xa)(Z:Ev.uV rz a=true)(h1:qH G cl gR rz su n sc N df m ta ya)(h2:qH G cl gR rz su n sc N df m tb yb):Oz G cl gR rz su n sc N df m (.iff a ta tb) (.If xa ya yb pos):=λX Ex g pins s σ H Q I q=>by
 obtain⟨r,f,z,c,p,h,A,e,q⟩:=q;simp only[Ev.xs]at e;split at e
 .rename_i k i B;refine HD (PT.iR (hc X.iR g.g)) (h1 X Ex g) (h2 X Ex g) pins s σ H Q I ⟨r,f,z,k,i,h,A,B,λH1 y d f1=>?_⟩;cases k with
  |true=>exact⟨y,f,i,c,p,h.mono f1,d,by simpa using e,λH' j l o=>q H' j l (f1.trans o)⟩
  |false=>exact⟨y,f,i,c,p,h.mono f1,d,by simpa using e,λH' j l o=>q H' j l (f1.trans o)⟩
 .rw[Ev.tV g.nz _ Z]at e;exists e
def vE{st:S}(h1:JS G n sc N df m st x)(k1:Oz G cl gR rz su n sc N df m st x)(ks:qH G cl gR rz su n sc N df m ss xs):qH G cl gR rz su n sc N df m (.cons st ss) (x :: xs):=λX Ex g pins s σ H Q I q=>by
 obtain⟨r,f,h,c,i,j,l,e,q⟩:=q;simp only[Ev.xss]at e;split at e
 .rename_i o p y;exact qq (PS.iR (h1 X.iR g.g)) (ks X Ex g) pins s σ H Q I ⟨r,f,h,.nx,o,p,j,l,y,λs1 H1 z A d f1=>⟨z,o,p,c,i,A,d,e,λH' B C F=>q H' B C (f1.trans F)⟩⟩
 ·exists e
 .exact qq (k1 X Ex g) (ks X Ex g) pins s σ H Q I ⟨r,f,h,c,i,j,l,e,q⟩
def KJ{c:Nat}{x t:Str}{np cp p1 pos:Pos}{j:Nat}(Z:(x,c)∈gR:=by decide)(h:zY sc x=true:=by decide)(h9:c<9:=by decide):Oz G cl gR rz su n sc N df m (.eG c) (.Raise (some (.Call (.Name x np) [.Constant (.str t) j p1] [] cp)) none pos):=λX Ex g pins s σ H Q I q=>by
 obtain⟨r,C,J,K,L,M,d,e,q⟩:=q;simp only[Ev.xs]at e;simp only[Ev.xs,gV h9]at e;cases e;unfold zY at h;simp only[yK,Z8]at h;have f:Gl X x:=g.g.gl (by simpa using h.1);obtain⟨i,nm,l,Nn,bs,P,hdct,sn,sub,ab,col,dd,k0,k1,k2,k3,k5,o,p,y⟩:=g.cs x _ Z;have z:=q H r d .refl;obtain⟨W,n1,n2,n3⟩:=y s.heap I.lT;refine wpAny_Raise_call_subT (nm:=nm) (q:=l) (N:=Nn) (bs:=bs) (hdct:=hdct) (sn:=sn) (sub:=sub) (ab:=ab) (col:=col) (dd:=dd) (k0:=k0) (k1:=k1) (k2:=k2) (k3:=k3) (k5:=k5) PySem.F.excBase_ValueError p g.g.room.hd rfl n2 (o8 I f i ⟨rfl,?_⟩ h.2);refine abD ?_;show wpAny _ _ (spliced ((false,eval (.Constant (.str t) j p1) X.env) :: [])) _ _ _;refine aaC (Calls.Constant_str (aaY ⟨rfl,by show 1<=sizeLine;decide,I.lT _ _ o,n1,n3,λA e B=>?_⟩));exact g.md pins σ H { s with toks:=s.toks+1 } A e _ _ (I.tok _) B z
section
variable{P:Program}{w:World}{K:Ψ}{mg:Kx}{base:Heap}
def qI(P:Program)(w:World)(K:Ψ)(mg:Kx)(base:Heap)(G:Tb)(cl:Nat->Addr)(su:Ξ)(n:Nat):Prop:=∀(f:Nat) i,
 G.fi[f]?=some i
 ->su.contains f=true->fc P w K mg base (rN P w) n i.addr i.fd i.ps (xQ K cl G.F G.w n f)
def OA(z:∀ds h,Ev.dP G.F G.w n k ds h=none):fc P w K mg base (rN P w) n f fd ps (xQ K cl G.F G.w n k):=by
 have no:∀d H Q E,¬ xQ K cl G.F G.w n k d H Q E:=λd H Q E h=>by
  obtain⟨r,h,ds,c,i,_,_,e,_⟩:=h;rw[z]at e;exists e
 exact⟨λd H Q E h=>absurd h (no d H Q E),λA g s H args j d Q E _ _ _ _ h=>absurd h (no d H Q E)⟩
def OB{st:Stmt}{i:FI}(T:Top P w K mg G)(A0:pe P w K mg base G n)(A1:qI P w K mg base G cl su n)(hz:Ev.pZ rz 0 G.F=true)(hc:∀x c,(x,c)∈gR->mg x=some (.ref (cl c))/\DM K (cl c))(F:q9 K x qual st i.addr i.fd)(S:bE N i.ps (aI st))(hf:G.F[f]?=some fn)(hp:i.ps.length=fn.np)(hb:qH G cl gR rz su n (aI st) N true (List.range N.length) fn.body (eO st)):fc P w K mg base (rN P w) (n+1) i.addr i.fd i.ps (xQ K cl G.F G.w (n+1) f):=by
 have j:∀l H Q E,xQ K cl G.F G.w (n+1) f l H Q E->l.length=i.ps.length:=λl H Q E h=>by
  obtain⟨r,h,ds,c,X,y,_,e,_⟩:=h;simp only[Ev.iW,hf]at e;split at e
  .rename_i z;rw[y.length,z,hp]
  ·exists e
 obtain⟨oc,od,kV,doc,pm,an,o,ct,osl,e0,Y,B⟩:=F.ex;rw[e0]at Y ⊢;refine HJ Y B S j λA d s H l Q Ex hr Z=>?_;have hl:=j l H Q Ex Z;have hN:l.length<=N.length:=by
  have:=ZJ List.length S.pre;rw[Z9]at this;lia
 have g:Good G n (aI st) N true (ly (rN P w) P w K mg base N qual (aI st) i.addr o A d s H Ex).iR:=
  ⟨rfl,rfl,rfl,λ_ _=>rfl,hr,rfl,λf i p=>⟨(T.fn f i p).1,(T.fn f i p).2.1,(T.fn f i p).2.2,A0 f i
   p
   ⟩,T.bl,T.cs,T.dk
   ⟩
 have gx:GX G cl gR rz su n (aI st) N true Ex (ly (rN P w) P w K mg base N qual (aI st) i.addr o A d s H Ex):=
  ⟨g,PassesOwn.leaving,λpins σ H1 s1 e s' I ⟨a,C,H',h1,fl,q⟩=>by
    subst h1;exact Gv rfl rfl rfl I fl λJ L=>⟨a,C,H',rfl,L,q⟩,
   λpins σ H1 s1 h1 e C args I mk q=>BJ rfl rfl rfl I mk λJ L=>⟨e,C,H1,rfl,L,q⟩,A1,Ev.zB hz G.w n,hc
   ⟩
 refine⟨_,hb _ Ex gx,?_⟩;obtain⟨r,h,ds,c,X,y,M,e,q⟩:=Z;simp only[Ev.iW,hf]at e;split at e
 .exact⟨r,Ev.cW fn ds,h,c,X,qy y hN,M,e,q⟩
 ·exists e
def OC{X:Cx}{k:Nat}{f:Addr}{fd:FuncData}{ps:Y1}{sp:Sp}{x:Str}{p pos:Pos}{e:Expr}{es:Kj}{t:TA}{pins:Ω}{σ:L2.St}{H:Hp}{s:Shared}{Ex:XK}{Q:Φ}{E':Φ}(F:fc X.prog X.w X.K X.mg X.base (rN X.prog X.w) k f fd ps sp)(hr:fL k X.A)(hg:Gl X x)(hm:X.mg x=some (.ref f))(hk:W.keepIn X.K (.ref f)=true)(hb:Binds X.K fd ps [])(hd:(x==("__debug__":Str))=false)(ha:PA X (e :: es) t)(OD:X.xe=λ_ _=>False)(hst:q5 e es X.env)(hpl:q7 pos es X.env)(I:Inv X pins σ H s)(h:t σ H λvs Z=>sp vs Z (λ_ _=>False) Ex)(q:∀Z s1 a C H' s',Inv X pins σ Z s1->iJ X.prog X.w X.stack Z s1 a C H' s'->Ex (.ref C) none H'->E' (.ref a) s'):
  wpAny (model X.prog X.w) X.A (eval (.Call (.Name x p) (e :: es) [] pos) X.env) Q E' s:=by
 refine aao (o8 I hg hm ?_ hd);refine aa8 (h₀:=X.base) I.ok.mod.dF hk (ZT (ha pos pins s σ H _ I h) (λg s1 ⟨vs,Z,I1,r,j⟩=>⟨I1.lT,?_⟩) (λ_ _ z=>by rw[OD]at z;exact z.elim)) hst hpl;have l:g.length=ps.length:=by rw[<-r.length];exact F.len _ _ _ _ j
 have c:=hb s1 g I1.lT (by rw[ZK];exact l);rw[ZK]at c;refine abv (aa6 (F.run X.A X.stack s1 Z ⟨g,[]⟩ g vs _ Ex hr I1.Mv c r j) λi s' d=>?_);cases i with
 |error e=>
  obtain⟨a,C,H',rfl,fl,o⟩:=d;exact q Z s1 a C H' s' I1 fl o
 |ok fl=>
  cases fl with
  |ret u=>obtain⟨v,H',_,_,_,_,_,z⟩:=d;exact z.elim
  |next=>exact d.elim
  |brk=>exact d.elim
  |cont=>exact d.elim
def KL(k:∀b o,H b=some o->H' b=some o):Fm K r r H H'/\(HR K H r h->HR K H' r h):=by
 have f:Fm K r r H H':=⟨λ_ _ e=>e,λ_ e=>.inl e,λa o e _=>k a o e,λa g e=>by
  rcases e with (e|⟨ob,e⟩)|e
  .exact .inl (.inl (k _ _ e))
  .exact .inl (.inr ⟨ob,k _ _ e⟩)
  .exact .inr e
  ⟩
 refine⟨f,λc=>⟨c.len,λn o e=>?_,c.inj
  ,c.kD
  ⟩⟩
 obtain⟨a,d,q⟩:=c.ob n o e;exact⟨a,d,q.mono f (λ_ _ _ z=>k _ _ z) (λ_ _ z=>k _ _ z)
  (λ_ _ _ z=>k _ _ z)
  ⟩
def OE{w n f:Nat}(hF:F.length<=1000)(e:Ev.run F w n (f+Ev.xo) ds h=.ok d h'):∃c:Nat,d=.int c/\Ev.dP F w n f ds h=some (c,h'):=by
 cases n with
 |zero=>exists e
 |succ n=>
  rw[Ev.fy,Z7 (by show F.length<=f+1000;lia)]at e;simp only[Ev.nv]at e;rw[gV (Nat.le_add_left _ _),abK]at e;split at e
  .rename_i c g z;exists e;exact⟨c,rfl,z⟩
  ·exists e
theorem ug(st:∀n,pe P w K mg base G n->qI P w K mg base G cl su n->pe P w K mg base G (n+1)/\qI P w K mg base G cl su (n+1)):∀n,pe P w K mg base G n/\qI P w K mg base G cl su n
 |0=>⟨λf i _=>J7,λf i _ _=>OA λ_ _=>rfl⟩
 |n+1=>st n (ug st n).1 (ug st n).2
end
end
open PySem.W
def xR(K:Ψ)(N:Addr):Bool:=nsOkIn K N&&quietNames.all λn=>nsIn K N n==some none
def OF(K:Ψ)(C Wc:Addr):Bool:=
 findIn K (.ref C) "__getattribute__" ==some (some (.builtin "BaseException.__getattribute__"))&&findIn K (.ref C) "__getattr__" ==some none&&findIn K (.ref C) "__class__" ==some (some (.builtin "object.__class__"))
 &&subIn K (.ref C) (.type "object")==some true&&kitCls K (.ref C) (.ref C)==some true
 &&kitOne K (.ref C) (.ref C)==some true&&kitOne K (.ref C) (.type "ValueError")==some true&&exmOne K (.ref C) (.ref Wc)==some true
structure OG(K:Ψ)(x:Str)(C Wc:Addr):Prop where
 ns:nsIn K mainGlobals x=some (some (.ref C))
 rs:DM K C
 cs:Xw K C C 0
 em:exmOne K (.ref C) (.ref Wc)=some true
def xR.ns{K:Ψ}{N:Addr}{h:Heap}(q:xR K N=true)(dF:K.In h):∃m,h.Ns N m/\∀n∈quietNames,m n=none:=by
 unfold xR at q;rw[yK]at q;have b:=Heap.Ns.of_isNs (isNs_of_in dF q.1);exact⟨_,b,λn a=>nsMap_none_of_in dF q.1 (beq_iff_eq.mp (List.all_eq_true.mp q.2 n a))⟩
def KN{K:Ψ}{x:Str}{C Wc N:Addr}{nm q:Str}{bs:W1}{hdct:Bool}{sn:Y1}{sub:W1}{ab:Bool}{col:Option Bool}{dd I:Option Addr}{k0 k1 k2 k3 k5:Option Value}{c0:Value}{z:ClassData}{sl:Array (Option Value)}(a:nsIn K mainGlobals x=some (some (.ref C)))(l:K.lookup C=some (excClassObj nm q C N bs (.ref Wc :: Iq) hdct sn sub ab col dd k0 k1 k2 k3 k5 "ValueError.__new__"))(Z:K.lookup Wc=some ⟨c0,I,.cls z,sl⟩)(n:xR K N=true)(nw:xR K z.ns=true)(f:OF K C Wc=true):OG K x C Wc:=by
 unfold OF at f;simp only[yK,acu]at f;obtain⟨⟨⟨⟨⟨⟨⟨f1,f2⟩,f3⟩,f4⟩,f5⟩,f6⟩,f7⟩,f8⟩:=f;have e:∀h:Heap,K.In h->OwnTailQ h Iq (.ref Wc :: Iq):=λh b=>by
  obtain⟨m,c,d⟩:=xR.ns nw b;exact .own (b _ _ Z) c d .base
 refine⟨a,⟨_,_,_,_,_,_,_,_,_,_,_,_,_,_,_,_,l,rfl,λh b=>?_⟩,⟨⟨⟨_,_,_,_,_,_,_,_,_,_,_,_,_,_,_,_,_,l,e⟩,f1,f2,f3,f4,f5⟩,f6,f7,rfl⟩,f8⟩;obtain⟨m,c,d⟩:=xR.ns n b;exact⟨m,c,d _ (by simp[quietNames]),(e h b).tail⟩
end Sm
namespace Sm
open PySem PySem.Spec PyProof.Rows L2
open Ev (D O Hh Fr R aE E Es Eo It T S Ss Fl Src bA br TY BI ME)
section
variable(cl:Nat->Addr)(nc:Nat)
def HX(X:Cx)(pins:Ω)(σ:L2.St)(R:VK)(z:Φ):Prop:=∀(H2:Hp) (s2:Shared) (a:Addr) (c:Nat) (H':Hp) (s':Shared),Inv X pins σ H2 s2->iJ X.prog X.w X.stack H2 s2 a (cl c) H' s'->c<nc->(∀p lZ,(∀b o,H' b=some o->lZ b=some o)->lZ p=some (.tup [.str "refused",.int c])->R (.ref p) lZ)->z (.ref a) s'
end
open PySem.W
section
variable{X:Cx}{pins:Ω}{σ:L2.St}{H:Hp}{s:Shared}{a C:Addr}{oe:Obj}
def han(X:Cx)(a:Addr)(oe:Obj):Cx:={ X with A:=X.A.mark (some (.ref a)),calm:=false,pn:=(a,oe) :: X.pn }
theorem Inv.han(I:Inv X pins σ H s)(x:s.heap.get? a=some oe)(n:H a=none)(ne:a≠X.env.locals)(Z:a∉X.fs)(d:∀v,oe.data≠.cell v):Inv (han X a oe) pins σ H s:=
 ⟨⟨I.ok.mod,I.ok.kind,I.ok.glob,I.ok.blt,I.ok.above,I.ok.inj,I.ok.has,I.ok.wm,(λz=>nomatch z),I.ok.frames,I.ok.stk,I.ok.Cu,I.ok.bs,I.ok.qW,I.ok.ql,I.ok.qm,I.ok.jm,I.ok.uJ⟩,I.os,I.bare,I.base,I.loc,I.cell,I.free,I.gk,λp b=>by
  rcases qE (show p∈(a,oe) :: (X.pn++pins)from b)with rfl|b
  .exact⟨x,n,ne,Z,d⟩
  .exact I.pin p b,I.hok,I.len⟩
def Inv.R6(ok:X.Ok)(I:Inv (Sm.han X a oe) pins σ H s):Inv X pins σ H s:=
 ⟨ok,I.os,I.bare,I.base,I.loc,I.cell,I.free,I.gk,λp b=>I.pin p (.tail _ b),I.hok,I.len⟩
def KO{i:Nat}{D:V}{Du:Value}{b:Bool}{z:Expr}{xe:Str}{p p1 pos:Pos}(hp:(a,oe)∈X.pn)(ho:oe.cls=.ref C)(hd:∃vs,oe.data=.fields vs)(c:XC X.K C)(hD:PE X z (tC D))(rD:∀u,RelV D u->u=Du)(k:kitOne X.K (.ref C) Du=some b)(hN:X.N[i]?=some xe)(hv:zk X.env.scope xe)(hg:Gl X "isinstance")(hm:X.mg "isinstance" = none)(Z:∀env:Env,starEach [.Name xe p1,z] env=(false,eval (.Name xe p1) env) :: starEach [z] env)(OH:∀env:Env,starEach [z] env=(false,eval z env) :: starEach [] env)(T9:(xe==("__debug__":Str))=false)(Xz:(xe==("__classdict__":Str))=false):
  PE X (.Call (.Name "isinstance" p) [.Name xe p1,z] [] pos) (λσ H Q=>σ[i]?=some (some (.ref a))/\Q (.bl b) H):=by
 have d:gn X (.builtin "isinstance") (λxs H Q=>xs=[.ref a,D]/\Q (.bl b) H):=by
  intro pins s σ H xs us Q I rv q;obtain⟨rfl,q⟩:=q;cases rv with
  |cons e rv=>
   cases rv with
   |cons f rv=>
    cases rv;cases e;obtain rfl:=rD _ f;obtain⟨g,_⟩:=I.pin (a,oe) (List.mem_append.mpr (.inl hp));exact Ov c I.lT ⟨oe,g,ho,hd⟩ k λtk=>⟨.bl b,H,I.tok _,rfl,q⟩
 refine Ox (wD d hg hm (by decide) (jq (wo hN hv T9 Xz) (jq hD lU (OH _)) (Z _)) (by decide) (by decide) (Z _) (by show _=_;rw[OH];rfl)) λs H Q q=>?_;exact⟨_,q.1,rfl,q.2⟩
end
section
variable{X:Cx}{pins:Ω}{σ:L2.St}{H H':Hp}{s s':Shared}{a C:Addr}{oe:Obj}
def V9{i:Nat}{D0:Addr}{x0:Str}{p1 p2 z I Z:Pos}(hp:(a,oe)∈X.pn)(ho:oe.cls=.ref C)(hd:∃vs,oe.data=.fields vs)(xc:XC X.K C)(k0:kitOne X.K (.ref C) (.ref D0)=some true)(g0:Gl X x0)(gi:Gl X "isinstance")(m0:X.mg x0=some (.ref D0))(mi:X.mg "isinstance" = none)(d0:(x0==("__debug__":Str))=false)(n0:X.N[i]?=some ("e":Str))(h0:X.env.scope.names.lookup ("e":Str)=some .local):
  gm X [.Return (some (.Call (.Name "isinstance" p1) [.Name "e" p2,.Name x0 z] [] I)) Z] (λD σ H=>σ[i]?=some (some (.ref a))/\D.rt (.bl true) H):=
 KG (zo (wu (KO hp ho hd xc (zm (pos:=z) g0 m0 (v:=.ref D0) rfl d0) (λu r=>r) k0 n0 (.inl h0) gi mi (λ_=>rfl) (λ_=>rfl) (by decide) (by decide)))) λD σ H q=>q
structure Gw(K:Ψ)(mg:Kx)(Wc C D0:Addr)(x0:Str):Prop where
 mw:mg "WayError" = some (.ref Wc)
 xc:XC K C
 k0:kitOne K (.ref C) (.ref D0)=some true
 m0:mg x0=some (.ref D0)
 mi:mg "isinstance" = none
 d0:(x0==("__debug__":Str))=false
structure Ua(sc:Scope)(N:Y1)(i:Nat)(x0:Str):Prop where
 n0:N[i]?=some ("e":Str)
 h0:sc.names.lookup ("e":Str)=some .local
 g0:sc.names.lookup x0=some .globalImplicit
 gi:sc.names.lookup ("isinstance":Str)=some .globalImplicit
 gw:sc.names.lookup ("WayError":Str)=some .globalImplicit
set_option maxHeartbeats 1000000 in
def KP{Wc D0:Addr}{x0:Str}{i:Nat}{D:Ends}{Qf:Flow->Shared->Prop}{E:Φ}{pw p1 p2 p3 p4 p5 DN:Pos}(R:Gw X.K X.mg Wc C D0 x0)(kw:exmOne X.K (.ref C) (.ref Wc)=some true)(hs:X.stack=X.env :: X.outer)(hf:X.env.frame=some X.env.locals)(hu:X.A.units+1+Ev.deep<cLine)(hN:X.N.Nodup)(S:Ua X.env.scope X.N i x0)(OD:X.xe=λ_ _=>False)(Z:Inv X pins σ H s)(f:iJ X.prog X.w X.stack H s a C H' s')(q:∀lZ,(∀b o,H' b=some o->lZ b=some o)->D.rt (.bl true) lZ)(hQ:∀u s7,SP X pins D (.ret u) s7->Qf (.ret u) s7):
  wpAny (model X.prog X.w) X.A (noteFrame (.ref a) X.env) (λ_ s₂=>wpAny (model X.prog X.w) X.A (setFlight (.ref a) none) (λ_ s₃=>wpAny (model X.prog X.w) X.A (handleBy (.ref a) X.env [.ExceptHandler (some (.Name "WayError" pw)) (some "e") [.Return (some (.Call (.Name "isinstance" p1) [.Name "e" p2,.Name x0 p3] [] p4)) p5] DN]) Qf E s₃) E s₂) E s':=by
 have g:=S.n0;have j:=S.h0;refine BK Z f hs hf λs2 f2=>?_;have I2:=f2.inv Z;have XA:=f2.un;refine wpAny_handleBy_cons (codeAny_handlers_test ?_) (λz=>nomatch z);refine aaJ I2.ok.kind S.gw (abf (by rw[I2.ok.glob];exact I2.mod.glob.keeps I2.bk) R.mw ?_) (by decide);refine exm_one I2.lT (pG f2.xi) kw _ _ _ _ (λ_ _ e=>e) ?_;show codeAny _ _ (Code.handlers (.ref a) [.ExceptHandler none (some "e") _ DN] X.env) _ s2;refine codeAny_handlers_suite_as ?_;refine f2.on (qG Z XA) λs3 f3=>?_;have I3:=f3.inv Z;obtain⟨B,F⟩:=f3.new;obtain⟨oe,OI,XD,G,l⟩:=f3.xi;refine uK I3 hN g (.inl j) (v:=.ref a) rfl (λs4 I4 ⟨b,XE,I⟩=>?_) (.inr j);have r:a≠b:=λz=>by
  subst z;rcases I with z|z
  .obtain⟨m,⟨o,J,L,c,d,_⟩,_⟩:=I3.loc;rw[<-z,OI]at c;cases c;rw[l]at d;cases d
  .obtain⟨v,o,c,d⟩:=I3.cell _ _ z;rw[OI]at c;cases c;rw[l]at d;cases d
 have y:s4.heap.get? a=some oe:=(XE.2 a r).trans OI;have XF:a≠X.env.locals:=λz=>by
  obtain⟨m,⟨o,J,L,c,d,_⟩,_⟩:=I4.loc;rw[<-z,y]at c;cases c;rw[l]at d;cases d
 have XG:a∉X.fs:=λz=>B (by rw[hs];unfold frs;rw[ZZ,hf];exact .tail _ z);have XH:=Sm.Inv.han (a:=a) (oe:=oe) I4 y F XF XG (λv=>by rw[l];exact λz=>nomatch z);have hσ:(σ.set i (some (V.ref a)))[i]?=some (some (.ref a)):=Jb (by rw[I3.len];exact(gL g).1);refine ZT (V9 (X:=Sm.han X a oe) (C:=C) (.head _) XD ⟨G,l⟩ R.xc R.k0 S.g0 S.gi R.m0 R.mi R.d0 S.n0 S.h0 pins s4 _ H' { nx:=λ_ _=>False,rt:=λv lZ=>v=.bl true/\D.rt (.bl true) lZ } XH ⟨hσ,rfl,q H' λ_ _ e=>e⟩) (λfl s5 p=>?_) (λ_ _ z=>by rw[show(Sm.han X a oe).xe=X.xe from rfl,OD]at z;exact z.elim);cases fl with
 |next=>obtain⟨_,_,_,z⟩:=p;exact z.elim
 |brk=>obtain⟨_,_,_,z⟩:=p;exact z.elim
 |cont=>obtain⟨_,_,_,z⟩:=p;exact z.elim
 |ret Q=>
  obtain⟨v,Zm,H5,Mg,M,rfl,P⟩:=p;have I5:=Sm.Inv.R6 I4.ok Mg;cases M;show wpAny _ _ (do bindName X.env "e" .none;unbindBehindTheSuite X.env "e" DN) _ _ s5;refine gH (wpAny_bindName (qp I5 hN g (.inl j) (v:=.aU) rfl (λs6 I6=>?_) (.inr j)));refine wpAny_onRaise (DL I6 hN g j (v:=.aU) (Jb (by rw[I5.len];exact(gL g).1)) λs7 I7=>?_);exact hQ _ _ ⟨.bl true,_,H5,I7,rfl,P⟩
end
section
variable{G:Tb}{cl:Nat->Addr}{su:Ξ}{n:Nat}{sc:Scope}{N:Y1}{a:E}{pos:Pos}
def XJ(cl:Nat->Addr)(X:Cx)(pins:Ω)(σ:L2.St)(R:VK)(z:Φ):Prop:=∀(H2:Hp) (s2:Shared) (a:Addr) (H':Hp) (s':Shared),Inv X pins σ H2 s2->iJ X.prog X.w X.stack H2 s2 a (cl 0) H' s'->(∀lZ,(∀b o,H' b=some o->lZ b=some o)->R (.bl true) lZ)->z (.ref a) s'
def OJ(G:Tb)(cl:Nat->Addr)(su:Ξ)(n:Nat)(sc:Scope)(N:Y1)(ss:Ss)(x:Expr):Prop:=∀X,Good G n sc N true X->qI X.prog X.w X.K X.mg X.base G cl su n->∀(pins:Ω) (s:Shared) (σ:L2.St) (H:Hp) (D:Ends) (E':Φ),Inv X pins σ H s->wW X.K (List.range N.length) (Ev.run G.F G.w n) G.w ss D σ H->XJ cl X pins σ D.rt E'->wpAny (model X.prog X.w) X.A (eval x X.env) (λ_ b=>∃H',Inv X pins σ H' b/\D.rt (.bl false) H') E' s
def Gx{f:Nat}{j:FI}{es:Es}{x:Str}{e0:Expr}{xs:Kj}{p cp:Pos}(hG:G.F.length<=1000)(hj:G.fi[f]?=some j)(hx:j.name=x)(XM:su.contains f=true)(hs:JA G n sc N true (List.range N.length) es (e0 :: xs))(hcl:zY sc x=true)(se:∀env:Env,q5 e0 xs env:=by intro _;rfl)(sp:∀env:Env,q7 cp xs env:=by intro _;rfl):
  OJ G cl su n sc N (.cons (.tr f 1002 es) .nil) (.Call (.Name x p) (e0 :: xs) [] cp):=λX g A1 pins s1 σ1 H1 D E' I q hx'=>by
 subst hx;obtain⟨r,P,h,fl,aj,H,Q,o,e,q⟩:=q;simp only[Ev.exs,Ev.g7]at e;obtain⟨⟨g9,ah⟩,Y,A,e⟩:=Ev.ai e;obtain⟨ds,i,W,A⟩:=Ev.ai A;obtain⟨y,Zn,l,A⟩:=Ev.ai A;cases A;cases e;cases ey:Ev.run G.F G.w n f ds i with
 |ok d Z=>
  rw[ey]at l;obtain⟨rfl,rfl⟩:Ev.D.bl false=y/\Z=H:=by simpa[Ev.tryD,Ev.HN]using l
  exact ZT (TQ (pos:=cp) (p:=p) hcl hj rfl hs se sp X g pins s1 σ1 H1 (λ_ H'=>D.rt (.bl false) H') I ⟨r,P,h,d,_,Q,o,by simp only[Ev.ev,W,Ev.ao,ey],λv H' b _ J L=>q (.bl false) H' b rfl J L⟩) (λ_ _ ⟨v,H',z1,_,z2⟩=>⟨H',z1,z2⟩) (λ_ _ z=>by rw[g.xe]at z;exact z.elim)
 |bad=>
  rw[ey]at l;simp only[Ev.tryD]at l;obtain⟨dc,Zo,e5,l⟩:=Ev.ai l;obtain⟨c,rfl,ex⟩:=OE hG e5;obtain⟨B,e7⟩:=Ev.aJ l;subst e7;simp only[Ev.Bj]at B;rw[gV trivial]at B;split at B
  case isFalse=>cases B
  rename_i hc4;cases B;obtain rfl:c=0:=by omega
  obtain⟨g1,g2,g3,_⟩:=g.fn f j hj;unfold zY at hcl;simp only[yK,Z8]at hcl;refine OC (Ex:=λv _ H'=>v=.ref (cl 0)/\∃b,HR X.K H' b H/\Fm X.K r b H1 H') (A1 f j (Xx hj) XM) g.room (g.gl (by simpa using hcl.1)) g1 g2 g3 hcl.2 (hs X g) g.xe (se _) (sp _) I ⟨r,P,h,ds,i,Q,o,W,λvs H2 r2 v2 M f2=>⟨r2,i,ds,0,H,v2,M,ex,λH' b J L=>⟨rfl,b,J,f2.trans L⟩⟩⟩ λH2 s2 a C H' s' I2 fl zr=>?_;obtain⟨hC,b,jj,f3⟩:=zr;cases hC;refine hx' H2 s2 a H' s' I2 fl λlZ m1=>?_;obtain⟨f4,HW⟩:=KL (K:=X.K) (r:=b) (h:=H) m1;exact q _ lZ b rfl (HW jj) (f3.trans f4)
end
section
variable{G:Tb}{cl:Nat->Addr}{su:Ξ}{n:Nat}{P:Program}{w:World}{K:Ψ}{mg:Kx}{base:Heap}
set_option maxHeartbeats 1000000 in
def OL{x qual:Str}{st:Stmt}{i:FI}{N:Y1}{ft:Nat}{fn:Ev.Fn}{xb:Expr}{Wc D0:Addr}{x0:Str}{ix:Nat}{pr pt pw p1 p2 p3 p4 p5 DN pf pg:Pos}(T:Top P w K mg G)(A0:pe P w K mg base G n)(A1:qI P w K mg base G cl su n)(R:Gw K mg Wc (cl 0) D0 x0)(kw:W.exmOne K (.ref (cl 0)) (.ref Wc)=some true)(F:q9 K x qual st i.addr i.fd)(S:bE N i.ps (aI st))(Ub:G.F[ft]?=some fn)(hp:i.ps.length=fn.np)(hst:eO st=.Try [.Expr xb pr] [.ExceptHandler (some (.Name "WayError" pw)) (some "e") [.Return (some (.Call (.Name "isinstance" p1) [.Name "e" p2,.Name x0 p3] [] p4)) p5] DN] [] [] pt :: [.Return (some (.Constant (.bool false) 0 pf)) pg])(hb:OJ G cl su n (aI st) N fn.body xb)(sn:Ua (aI st) N ix x0)(sw:∀env:Env,swapsWith xb none pr.line env=pure false:=by intro _;rfl):
  fc P w K mg base lW (n+1) i.addr i.fd i.ps (ny K G.F G.w (n+1) ft):=by
 have c:∀l H Q E,ny K G.F G.w (n+1) ft l H Q E->l.length=i.ps.length:=λl H Q E h=>by
  obtain⟨r,h,ds,d,Y,y,_,e,_⟩:=h;simp only[Ev.fy,Ub]at e;split at e
  .rename_i z;rw[y.length,z,hp]
  .cases e
 refine F.ok S c λB A j s H l Q Ex Z M=>?_;have hl:=c l H Q Ex M;have hN:l.length<=N.length:=by
  have:=ZJ List.length S.pre;rw[Z9]at this;omega
 generalize hX:(ly lW P w K mg base N qual (aI st) i.addr B A j s H Ex).iR=X
 have g:Good G n (aI st) N true X:=by
  rw[<-hX];exact⟨rfl,rfl,rfl,λ_ _=>rfl,Z,rfl,λf i p=>⟨(T.fn f i p).1,(T.fn f i p).2.1,(T.fn f i p).2.2,A0 f i
   p
   ⟩,T.bl,T.cs,T.dk
   ⟩
 have XN:X.stack=X.env :: X.outer:=by rw[<-hX];rfl
 have xf:X.env.frame=some X.env.locals:=by rw[<-hX];rfl
 have o:X.K=K:=by rw[<-hX];rfl
 have xm:X.mg=mg:=by rw[<-hX];rfl
 have F1:qI X.prog X.w X.K X.mg X.base G cl su n:=by rw[<-hX];exact A1
 refine⟨wW X.K (List.range N.length) (Ev.run G.F G.w n) G.w fn.body,?_,?_⟩
 .rw[hst];intro b s1 σ1 H1 D I q;have rest:∀s2 H',Inv X b σ1 H' s2->D.rt (.bl false) H'->wpAny (model X.prog X.w) X.A (execs [.Return (some (.Constant (.bool false) 0 pf)) pg] X.env) (SP X b D) X.xe s2:=λs2 H' I2 C=>zo (wu HA) b s2 σ1 H' D I2 C;refine abo (wpAny_Try_except (abo (wpAny_Expr_any (ZT (hb X g F1 b s1 σ1 H1 D _ I q λH2 s2 a H' s' I2 fl C=>?_) (λu s2 ⟨H',z1,z2⟩=>?_) λ_ _ z=>z) I.quiet (sw _))))
  .exact KP (i:=ix) (D:=D) (by rw[o,xm];exact R) (by rw[o];exact kw) XN xf g.units (by rw[g.nm];exact S.nd) (by rw[g.nm,g.sc];exact sn) g.xe I2 fl C (λu s7 z=>z)
  .exact aby (aby (rest s2 H' z1 z2))
 .obtain⟨r,h,ds,d,Y,y,J,e,q⟩:=M;simp only[Ev.fy,Ub]at e;split at e
  .unfold Ev.endOf at e;obtain⟨⟨fl,aj⟩,h2,e1,e⟩:=Ev.ai e;refine⟨r,Ev.cW fn ds,h,fl,aj,h2,by rw[o];exact qy y hN,by rw[o];exact J,e1,?_⟩;rw[o];cases fl with
   |nx=>
    cases e;exact λs' H' r' _ L f'=>q _ H' r' rfl L f'
   |ret d'=>
    cases e;exact q
   |bk=>cases e
   |ct=>cases e
  .cases e
end
end Sm
namespace Pv
open Ev (D bA br TY BI ME T E Es Eo It S Ss Fn big deep b2i rep bZ dU bM aS cut cE dI slots)
def nd{α:Type _}{a b:α}(h:a=b):a=b:=h
inductive V where
 |aU|bl (b:Bool)|int (i:Int)|str (s:Ξ)|tup (l:List V)|lst (l:List V)|bQ (l:List V)
 |dct (kvs:Θ)
abbrev _root_.T2:=List V
inductive Sl where
 |val (v:V)|own (l:T2)|bor (l:T2)|ro (l:T2)
abbrev _root_.Tx:=Option Sl
abbrev Fr:=List (Tx)
inductive R(α:Type) where
 |ok (a:α) (fr:Fr)
 |bad
def R.bind{α β:Type}(r:R α)(f:α->Fr->R β):R β:=
 match r with
 |.ok a h=>f a h
 |.bad=>.bad
@[simp] theorem ao{α β:Type}(a:α)(h:Fr)(f:α->Fr->R β):(R.ok a h).bind f=f a h:=nd rfl
@[simp] theorem Fj{α β:Type}(f:α->Fr->R β):(R.bad:R α).bind f=.bad:=nd rfl
def ai{α β:Type}{r:R α}{f:α->Fr->R β}{b:β}(e:r.bind f=.ok b h):∃a h1,r=.ok a h1/\f a h1=.ok b h:=by
 cases r with
 |ok a h1=>exact⟨a,h1,rfl,e⟩
 |bad=>exists e
def R.of{α:Type}(o:Option α)(h:Fr):R α:=match o with
 |some a=>.ok a h
 |none=>.bad
@[simp] theorem dB{α:Type}(a:α)(h:Fr):R.of (some a) h=.ok a h:=nd rfl
@[simp] theorem of_none{α:Type}(h:Fr):R.of (none:Option α) h=.bad:=nd rfl
def aJ{α:Type}{o:Option α}{a:α}(e:R.of o h=.ok a h'):o=some a/\h'=h:=by
 cases o with
 |none=>exists e
 |some b=>exists e;exact⟨rfl,rfl⟩
inductive Fl where
 |nx|bk|ct|ret (v:V)
mutual
noncomputable def ofD:D->Option V
 |.aU=>some .aU
 |.bl b=>some (.bl b)
 |.int i=>some (.int i)
 |.str s=>some (.str s)
 |.tup ds=>(xS ds).map .tup
 |.ref _=>none
noncomputable def xS:List D->Option (T2)
 |[]=>some []
 |d :: ds=>(ofD d).bind λv=>(xS ds).map λa=>v :: a
end
def cP(f:V->V->Option Bool):List V->List V->Option Bool
 |[],[]=>some true
 |x :: xs,y :: ys=>(f x y).bind λb=>(cP f xs ys).bind λc=>some (b&&c)
 |_,_=>some false
def gp:Nat->V->V->Option Bool
 |0,_,_=>none
 |_+1,.aU,.aU=>some true
 |_+1,.bl a,.bl b=>some (a==b)
 |_+1,.int a,.int b=>some (a==b)
 |_+1,.bl a,.int b=>some (b2i a==b)
 |_+1,.int a,.bl b=>some (a==b2i b)
 |_+1,.str a,.str b=>some (a==b)
 |n+1,.tup a,.tup b=>cP (gp n) a b
 |n+1,.lst a,.lst b=>cP (gp n) a b
 |n+1,.bQ a,.lst b=>cP (gp n) a b
 |n+1,.lst a,.bQ b=>cP (gp n) a b
 |_+1,.bQ _,.bQ _=>none
 |_+1,.dct _,_=>none
 |_+1,_,.dct _=>none
 |_+1,_,_=>some false
def truthy:V->Bool
 |.aU=>false
 |.bl b=>b
 |.int i=>i != 0
 |.str s=>!s.isEmpty
 |.tup ds=>!ds.isEmpty
 |.lst ds=>!ds.isEmpty
 |.bQ ds=>!ds.isEmpty
 |.dct a=>!a.isEmpty
def dX(l:T2):Option V:=if l.length<=big then some (.lst l)else none
def kF(l:T2):Option V:=if l.length<=big then some (.tup l)else none
def bX:bA->V->V->Option V
 |.add,.int i,.int j=>some (.int (i+j))
 |.add,.str a,.str b=>if a.length+b.length<=big then some (.str (a++b))else none
 |.add,.tup a,.tup b=>if a.length+b.length<=big then some (.tup (a++b))else none
 |.add,.lst a,.lst b=>dX (a++b)
 |.sub,.int i,.int j=>some (.int (i - j))
 |.mul,.int i,.int j=>if bZ i j then some (.int (i*j))else none
 |.mul,.str a,.int k=>if 0<=k/\k<=1000/\a.length<=1000 then some (.str (rep k.toNat a))else none
 |.mul,.tup a,.int k=>if 0<=k/\k<=1000/\a.length<=1000 then some (.tup (rep k.toNat a))else none
 |.mul,.lst a,.int k=>if 0<=k/\k<=1000/\a.length<=1000 then dX (rep k.toNat a)else none
 |.fdiv,.int i,.int j=>if 0<j/\j<1073741824 then some (.int (i / j))else none
 |.mod,.int i,.int j=>if 0<j then some (.int (i % j))else none
 |_,_,_=>none
def cop(o:br)(x y:V):Option Bool:=match o,x,y with
 |.eq,x,y=>gp deep x y
 |.ne,x,y=>(gp deep x y).map (!·)
 |.lt,.int i,.int j=>some (decide (i<j))
 |.gt,.int i,.int j=>some (decide (j<i))
 |.uT,x,.aU=>some (match x with|.aU=>true|_=>false)
 |.mR,x,.aU=>some (match x with|.aU=>false|_=>true)
 |_,_,_=>none
def uh:V->V->Option V
 |.dct kvs,.int k=>(Ev.bU kvs k).map .str
 |_,_=>none
def qJ:V->V->V->Option V
 |.dct kvs,.int k,z=>some (match Ev.bU kvs k with|some s=>.str s|none=>z)
 |_,_,_=>none
def eK(x y:V):Option V:=match x,y with
 |.tup ds,.int i=>bM ds i
 |.str s,.int i=>(bM s i).map λc=>.str [c]
 |.lst ds,.int i=>bM ds i
 |.bQ ds,.int i=>bM ds i
 |_,_=>none
def ji(x:V)(lo hi:Option Int):Option V:=match x with
 |.tup ds=>some (.tup (cut ds lo hi))
 |.str s=>some (.str (cut s lo hi))
 |.lst ds=>dX (cut ds lo hi)
 |.bQ ds=>dX (cut ds lo hi)
 |_=>none
def toT:V->Option V
 |.tup l=>some (.tup l)
 |.lst l=>kF l
 |.bQ l=>kF l
 |_=>none
def boolsOf:List V->Option (List Bool)
 |[]=>some []
 |.bl b :: ds=>(boolsOf ds).map λr=>b :: r
 |_=>none
def intsOf:List V->Option Kk
 |[]=>some []
 |.int i :: ds=>(intsOf ds).map λr=>i :: r
 |_=>none
def strsOf:List V->Option Δ
 |[]=>some []
 |.str s :: ds=>(strsOf ds).map λr=>s :: r
 |_=>none
def oq:V->Option (T2)
 |.lst l=>some l
 |.bQ l=>some l
 |_=>none
def OM:V->Option Θ
 |.dct a=>some a
 |_=>none
def cQ(b:BI)(xs:T2):Option V:=match b,xs with
 |.len,[.str s]=>if s.length<=big then some (.int s.length)else none
 |.len,[.tup ds]=>some (.int ds.length)
 |.len,[x]=>(oq x).map λds=>.int ds.length
 |.all,[x]=>((oq x).bind boolsOf).map λbs=>.bl (bs.all id)
 |.sum,[x]=>((oq x).bind intsOf).map λis=>.int is.sum
 |.min,[.int i,.int j]=>some (.int (if j<i then j else i))
 |.kQ,[x]=>((oq x).bind intsOf).bind λc=>if c.length<4095/\(Ev.dd c).length<64 then dX ((Ev.sortI (Ev.dd c)).map .int)else none
 |.mS,[x]=>(OM x).bind λa=>if a.length<64 then dX ((Ev.sortI (a.map (·.1))).map .int)else none
 |_,_=>none
def fK(m:ME)(o:V)(xs:T2):Option V:=match m,o,xs with
 |.join,.str sep,[x]=>((oq x).bind strsOf).bind λa=>if (a.map (·.length)).sum+a.length*sep.length<=big then some (.str (cE sep a))else none
 |_,_,_=>none
def kW(m:ME)(l:T2)(xs:T2):Option (V×T2):=match m,xs with
 |.append,[x]=>if l.length<big then some (.aU,l++[x])else none
 |.extend,[.lst es]=>if l.length+es.length<=big then some (.aU,l++es)else none
 |.pop,[]=>match l[l.length - 1]? with
  |some x=>some (x,l.dropLast)
  |none=>none
 |_,_=>none
def DO:ME->Bool
 |.extend=>true
 |_=>false
def jG:ME->Bool
 |.append=>true
 |.extend=>true
 |.pop=>true
 |_=>false
def vQ:V->Bool
 |.aU=>true
 |.bl _=>true
 |.int _=>true
 |.str _=>true
 |_=>false
def BL(x:V):List (D×D)->Option V
 |[]=>none
 | (k,v) :: r=>match (ofD k).bind λa=>gp 1 a x with
  |some true=>ofD v
  |some false=>BL x r
  |none=>none
def mT(x:V)(kvs:List (D×D)):Option V:=if vQ x then BL x kvs else none
def fM:V->Option (T2)
 |.tup ds=>some ds
 |.str s=>some (s.map λc=>.str [c])
 |.lst ds=>some ds
 |.bQ ds=>some ds
 |_=>none
def BN:V->Option (T2)
 |.tup ds=>some ds
 |_=>none
def range(lo:Int)(n:Nat):T2:=(List.range n).map λ(i:Nat)=>.int (lo+i)
def fO:List V->Option (T2)
 |[.int j]=>if -(2 ^ 62)<=j/\j<2 ^ 62 then some (range 0 j.toNat)else none
 |[.int i,.int j]=>if -(2 ^ 62)<=i/\i<2 ^ 62/\-(2 ^ 62)<=j/\j<2 ^ 62 then some (range i (j - i).toNat)else none
 |_=>none
def jt(a b:T2):T2:=List.zipWith (λx y=>.tup [x,y]) a b
def dj:Int->List V->T2
 |_,[]=>[]
 |k,x :: xs=>.tup [.int k,x] :: dj (k+1) xs
def xT(a:Ξ):T2:=a.map λc=>.str [c]
def Gy:V->Option (T2)
 |.str a=>some (dj 0 (xT a))
 |_=>none
def Ir:V->V->Option (T2)
 |.str a,.str b=>some (jt (xT a) (xT b))
 |_,_=>none
def put(fr:Fr)(i:Nat)(s:Sl):Option Fr:=match fr[i]? with
 |some (some (.bor _))=>none
 |some (some (.ro _))=>none
 |_=>some (fr.set i (some s))
def cR:List Nat->List V->Fr->Option Fr
 |[],[],fr=>some fr
 |i :: is,d :: ds,fr=>(put fr i (.val d)).bind (cR is ds)
 |_,_,_=>none
def bD:T->V->Fr->Option Fr
 |.one i,d,fr=>put fr i (.val d)
 |.many l,.tup ds,fr=>cR l ds fr
 |_,_,_=>none
def undef(t:T)(fr:Fr):Bool:=(slots t).all λi=>(fr[i]?.join).isNone
def Sl.read:Sl->Sl
 |.own l=>.ro l
 |.bor l=>.ro l
 |s=>s
def vF(fr:Fr):Fr:=fr.map (Option.map Sl.read)
def Sl.gW:Sl->Sl
 |.own l=>.val (.lst l)
 |s=>s
def gM(fr:Fr):Fr:=fr.map (Option.map Sl.gW)
def Sl.walk:Sl->Sl
 |.own l=>.val (.lst l)
 |.bor l=>.ro l
 |s=>s
def mW(is:Ξ)(fr:Fr):Fr:=is.foldl (λfr i=>match fr[i]? with
 |some (some s)=>fr.set i (some s.walk)
 |_=>fr) fr
def Sl.out:Sl->Option (T2)
 |.bor l=>some l
 |.ro l=>some l
 |_=>none
def Sl.lend:Sl->Tx
 |.own l=>some (.bor l)
 |.bor l=>some (.bor l)
 |.ro l=>some (.ro l)
 |.val _=>none
def lent(fr:Fr)(i:Nat):Tx:=match fr[i]? with
 |some (some s)=>s.lend
 |_=>none
def Sl.with:Sl->List V->Sl
 |.own _,l=>.own l
 |.bor _,l=>.bor l
 |s,_=>s
def back:List Nat->List (T2)->Fr->Option Fr
 |[],[],fr=>some fr
 |i :: is,l :: ls,fr=>match fr[i]? with
  |some (some s)=>back is ls (fr.set i (some (s.with l)))
  |_=>none
 |_,_,_=>none
def cI(f:V->Option (Option V)):List V->Option (T2)
 |[]=>some []
 |d :: ds=>(f d).bind λo=>(cI f ds).bind λr=>some (o.toList++r)
def forL(f:V->Fr->R Fl):List V->Fr->R Fl
 |[],fr=>.ok .nx fr
 |d :: ds,fr=>(f d fr).bind λp a=>match p with
   |.nx=>forL f ds a
   |.ct=>forL f ds a
   |.bk=>.ok .nx a
   |.ret x=>.ok (.ret x) a
def fP(t:Fr->R Bool)(f:Fr->R Fl):Nat->Fr->R Fl
 |0,_=>.bad
 |n+1,fr=>(t fr).bind λb c=>if b then (f c).bind λp a=>match p with
   |.nx=>fP t f n a
   |.ct=>fP t f n a
   |.bk=>.ok .nx a
   |.ret x=>.ok (.ret x) a
  else .ok .nx c
def jO:Es->Ξ
 |.nil=>[]
 |.cons (.v i) a=>i :: jO a
 |.cons _ a=>jO a
def Iu(m:ME):E->Ξ
 |.v i=>if jG m then [i]else []
 |_=>[]
mutual
noncomputable def aF:E->Ξ
 |.c _=>[]|.v _=>[]|.tup d=>dD d|.lst d=>dD d
 |.bin _ a b=>aF a++aF b|.cmp _ a b=>aF a++aF b
 |.nt a=>aF a|.neg a=>aF a|.an a b=>aF a++aF b|.orr a b=>aF a++aF b|.iT t a b=>aF t++(aF a++aF b)
 |.ix a b=>aF a++aF b|.sl a lo hi=>aF a++(jb lo++jb hi)
 |.cl _ d=>dD d++jO d|.bi _ d=>dD d|.me m o d=>aF o++(dD d++Iu m o)
 |.comp _ _ e _=>xU e
 |.gZ e=>xU e
 |.gf=>[]|.jP a k=>aF a++aF k|.jQ a k x=>aF a++(aF k++aF x)
 |.iU a=>aF a
noncomputable def dD:Es->Ξ
 |.nil=>[]
 |.cons e a=>aF e++dD a
noncomputable def jb:Eo->Ξ
 |.no=>[]
 |.yes e=>aF e
noncomputable def xU:It->Ξ
 |.seq e=>aF e|.jM es=>dD es
 |.zip a b=>aF a++aF b
 |.lE a=>aF a|.wL a b=>aF a++aF b
 |.rev a=>aF a
end
def kf(a:E)(l:Ξ):Bool:=match a with
 |.v i=>!l.contains i
 |_=>l.isEmpty
def itv:It->Ξ
 |.seq (.v i)=>[i]
 |.rev (.v i)=>[i]
 |.zip (.v i) (.v j)=>[i,j]
 |.zip (.v i) _=>[i]
 |.zip _ (.v j)=>[j]
 |_=>[]
abbrev aE:=Nat->List Sl->Option (V×List (T2))
def intOf:V->Option Int
 |.int i=>some i
 |_=>none
def mX(k:Bool)(fr:Fr)(i:Nat):Option V:=match fr[i]? with
 |some (some (.val v))=>some v
 |some (some (.own l))=>if k then some (.lst l)else none
 |some (some (.bor l))=>if k then some (.lst l)else none
 |some (some (.ro l))=>if k then some (.lst l)else none
 |_=>none
def um(k:Bool)(fr:Fr)(i:Nat):Option V:=match fr[i]? with
 |some (some (.ro l))=>some (.lst l)
 |_=>mX k fr i
def src(k:Bool)(fr:Fr)(e:E)(r:R V):R V:=match e with
 |.v i=>R.of (um k fr i) fr
 |_=>r
def ig(fr:Fr):E->Option Nat
 |.v i=>if (lent fr i).isSome then some i else none
 |_=>none
def args(fr:Fr):List (Nat ⊕ V)->Option (List Sl)
 |[]=>some []
 |.inl i :: r=>(lent fr i).bind λs=>(args fr r).map λl=>s :: l
 |.inr v :: r=>(args fr r).map λl=>.val v :: l
def bO:List (Nat ⊕ V)->Ξ
 |[]=>[]
 |.inl i :: r=>i :: bO r
 |.inr _ :: r=>bO r
def cz(P:aE)(f:Nat)(as:List (Nat ⊕ V))(fr:Fr):R V:=
 if (bO as).Nodup then match args fr as with
  |some a=>match P f a with
   |some (v,outs)=>R.of ((back (bO as) outs fr).map λb=>(v,b)) fr |>.bind λp _=>.ok p.1 p.2
   |none=>.bad
  |none=>.bad
 else .bad
mutual
noncomputable def ev(P:aE):Bool->E->Fr->R V
 |_,.c d,fr=>R.of (ofD d) fr
 |k,.v i,fr=>R.of (mX k fr i) fr
 |_,.tup es,fr=>(bY P false es fr).bind λds e=>R.of (kF ds) e
 |_,.lst es,fr=>(bY P false es fr).bind λds e=>R.of (dX ds) e
 |_,.bin o a b,fr=>(ev P (kf a (aF b)) a fr).bind λx e=>(ev P true b e).bind λy g=>R.of (bX o x y) g
 |_,.cmp o a b,fr=>(ev P (kf a (aF b)) a fr).bind λx e=>(ev P true b e).bind λy g=>R.of ((cop o x y).map .bl) g
 |_,.gf,_=>.bad
 |_,.jP a b,fr=>(ev P (kf a (aF b)) a fr).bind λx e=>(ev P true b e).bind λy g=>R.of (uh x y) g
 |_,.jQ a b c,fr=>(ev P (kf a (aF b++aF c)) a fr).bind λx e=>(ev P (kf b (aF c)) b e).bind λy g=>(ev P false c g).bind λz h=>R.of (qJ x y z) h
 |_,.nt a,fr=>(ev P true a fr).bind λx e=>match x with
   |.bl b=>.ok (.bl (!b)) e
   |_=>.bad
 |_,.neg a,fr=>(ev P true a fr).bind λx e=>match x with
   |.int i=>.ok (.int (-i)) e
   |_=>.bad
 |k,.an a b,fr=>(ev P true a fr).bind λx e=>match x with
   |.bl true=>ev P k b e
   |.bl false=>.ok (.bl false) e
   |_=>.bad
 |k,.orr a b,fr=>(ev P true a fr).bind λx e=>match x with
   |.bl true=>.ok (.bl true) e
   |.bl false=>ev P k b e
   |_=>.bad
 |k,.iT t a b,fr=>(iH P t (ev P true t fr) fr).bind λc e=>if c then ev P k a e else ev P k b e
 |_,.ix a b,fr=>(ev P (kf a (aF b)) a fr).bind λx e=>(ev P true b e).bind λy g=>R.of (eK x y) g
 |_,.sl a lo hi,fr=>(ev P (kf a (jb lo++jb hi)) a fr).bind λx e=>(iV P lo e).bind λl g=>(iV P hi g).bind λu h=>R.of (ji x l u) h
 |_,.cl f es,fr=>(eL P es fr).bind λj e=>cz P f j e
 |_,.bi b es,fr=>(bY P true es fr).bind λds e=>R.of (cQ b ds) e
 |_,.me m o es,fr=>if jG m then match ig fr o with
   |some i=>(bY P (DO m) es fr).bind λds e=>match e[i]? with
    |some (some (.own l))=>match kW m l ds with
     |some (v,l')=>.ok v (e.set i (some (.own l')))
     |none=>.bad
    |some (some (.bor l))=>match kW m l ds with
     |some (v,l')=>.ok v (e.set i (some (.bor l')))
     |none=>.bad
    |_=>.bad
   |none=>.bad
  else (ev P (kf o (dD es)) o fr).bind λx e=>(bY P true es e).bind λds g=>R.of (fK m x ds) g
 |_,.comp elt t it cond,fr=>(cL P true it fr).bind λs e=>if undef t e then
   R.of ((cI (λd=>match bD t d (vF e)with
    |none=>none
    |some g=>match kR P cond g with
     |.ok c _=>if c then (match ev P false elt g with|.ok x _=>some (some x)|.bad=>none)else some none
     |.bad=>none) s).bind dX) e else .bad
 |_,.gZ it,fr=>(cL P true it fr).bind λs e=>R.of (dX s) e
 |_,.iU a,fr=>(ev P true a fr).bind λx e=>R.of (toT x) e
noncomputable def bY(P:aE):Bool->Es->Fr->R (T2)
 |_,.nil,fr=>.ok [] fr
 |k,.cons e es,fr=>(ev P (k&&kf e (dD es)) e fr).bind λd a=>(bY P k es a).bind λds b=>.ok (d :: ds) b
noncomputable def eL(P:aE):Es->Fr->R (List (Nat ⊕ V))
 |.nil,fr=>.ok [] fr
 |.cons e es,fr=>match ig fr e with
   |some i=>(eL P es fr).bind λr a=>.ok (.inl i :: r) a
   |none=>(ev P false e fr).bind λd a=>(eL P es a).bind λr b=>.ok (.inr d :: r) b
noncomputable def iV(P:aE):Eo->Fr->R (Option Int)
 |.no,fr=>.ok none fr
 |.yes e,fr=>(ev P true e fr).bind λd a=>R.of ((intOf d).map some) a
noncomputable def kR(P:aE):Eo->Fr->R Bool
 |.no,fr=>.ok true fr
 |.yes e,fr=>iH P e (ev P true e fr) fr
noncomputable def iH(P:aE):E->R V->Fr->R Bool
 |.an a b,_,fr=>(iH P a (ev P true a fr) fr).bind λk c=>if k then iH P b (ev P true b c) c else .ok false c
 |.orr a b,_,fr=>(iH P a (ev P true a fr) fr).bind λk c=>if k then .ok true c else iH P b (ev P true b c) c
 |.nt a,_,fr=>(iH P a (ev P true a fr) fr).bind λk c=>.ok (!k) c
 |_,v,_=>v.bind λx c=>.ok (truthy x) c
noncomputable def cL(P:aE):Bool->It->Fr->R (T2)
 |k,.seq e,fr=>(src k fr e (ev P k e fr)).bind λx c=>R.of (fM x) c
 |_,.jM es,fr=>(bY P true es fr).bind λds c=>R.of (fO ds) c
 |k,.zip a b,fr=>(src (k&&kf a (aF b)) fr a (ev P (k&&kf a (aF b)) a fr)).bind λx c=>(src k c b (ev P k b c)).bind λy d=>R.of ((oq x).bind λs=>(oq y).map λt=>jt s t) d
 |_,.lE a,fr=>(ev P true a fr).bind λx c=>R.of (Gy x) c
 |_,.wL a b,fr=>(ev P (kf a (aF b)) a fr).bind λx c=>(ev P true b c).bind λy d=>R.of (Ir x y) d
 |_,.rev a,fr=>(ev P true a fr).bind λx c=>R.of ((BN x).map λs=>s.reverse) c
end
abbrev bu(P:aE)(e:E)(fr:Fr):R Bool:=iH P e (ev P true e fr) fr
def ON{P:aE}{fr:Fr}:bu P (.an a b) fr=(bu P a fr).bind λk ah=>if k then bu P b ah else .ok false ah:=nd rfl
def OO{P:aE}{fr:Fr}:bu P (.orr a b) fr=(bu P a fr).bind λk ah=>if k then .ok true ah else bu P b ah:=nd rfl
def OP{P:aE}{fr:Fr}:bu P (.nt a) fr=(bu P a fr).bind λk ah=>.ok (!k) ah:=nd rfl
def fj{P:aE}{e:E}{fr:Fr}(l:Ev.leaf e=true):bu P e fr=(ev P true e fr).bind λx ah=>.ok (truthy x) ah:=by
 cases e<;>first|rfl|nomatch l
def isNew:E->Bool
 |.lst _=>true
 |.gZ _=>true
 |_=>false
def kG(P:aE)(f:Nat):List V->List (Int×Ξ)->Option Θ
 |[],k=>some k
 |v :: vs,k=>match P f [.val v]with
  |some (.dct m,[])=>if k.length+m.length<=100000 then kG P f vs (Ev.cj k m)else none
  |_=>none
def jH(fr:Fr)(x:Nat)(vs:T2):Option Fr:=match vs.getLast? with
 |some v=>put fr x (.val v)
 |none=>some fr
def OQ(k:Nat)(v:V):V:=if k=1002 then .bl false else v
def BO(k:Nat):V->Option V
 |.int c=>
  if k=1002 then (if c=0 then some (.bl true)else none)else
  if 0<=c/\c<k then some (.tup [.str [114,101,102,117,115,101,100],.int c])else none
 |_=>none
mutual
noncomputable def ex(P:aE)(w:Nat):S->Fr->R Fl
 |.set i e,fr=>(ev P false e fr).bind λx g=>if isNew e then (match x with
   |.lst l=>(R.of (put g i (.own l)) g).bind λh _=>.ok .nx h
   |_=>.bad)
  else (R.of (put g i (.val x)) g).bind λh _=>.ok .nx h
 |.dput _ _ _,_=>.bad
 |.j0 _ _,_=>.bad
 |.gT i x y f,fr=>if i≠y/\x≠i/\i<fr.length/\x<fr.length then (cL P false (.seq (.v y)) (mW [y] fr)).bind λp g=>(R.of (kG P f p []) g).bind λk h=>(R.of (put h i (.val (.dct k))) h).bind λj _=>(R.of (jH j x p) j).bind λq _=>.ok .nx q else .bad
 |.exp e,fr=>(ev P true e fr).bind λ_ g=>.ok .nx g
 |.ret e,fr=>(ev P false e (gM fr)).bind λx g=>.ok (.ret x) g
 |.iff t a b,fr=>(bu P t fr).bind λk g=>if k then exs P w a g else exs P w b g
 |.for t it b,fr=>(cL P false it (mW (itv it) fr)).bind λs g=>forL (λd h=>match bD t d h with
   |some j=>exs P w b j
   |none=>.bad) s g
 |.lX t b,fr=>fP (λh=>bu P t h) (λh=>exs P w b h) w fr
 |.eG _,_=>.bad
 |.tr f k es,fr=>(eL P es fr).bind λo g=>if (bO o).isEmpty then (match cz P f o g with
   |.ok v h=>.ok (.ret (OQ k v)) h
   |.bad=>(cz P (f+Ev.xo) o g).bind λc h=>R.of ((BO k c).map .ret) h)
  else .bad
noncomputable def exs(P:aE)(w:Nat):Ss->Fr->R Fl
 |.nil,fr=>.ok .nx fr
 |.cons s ss,fr=>(ex P w s fr).bind λp a=>match p with
   |.nx=>exs P w ss a
   |p=>.ok p a
end
def cW(fn:Fn)(ds:List Sl):Fr:=ds.map some++List.replicate (fn.ns - fn.np) none
def outs(np:Nat)(fr:Fr):List (T2):=(fr.take np).filterMap λo=>o.bind Sl.out
def DP:Ss:=.cons (.dput (.v 1) (.v 2) (.v 4)) (.cons (.set 2 (.bin .add (.v 2) (.c (.int 1)))) .nil)
def vG:Ss:=.cons (.iff (.cmp .eq (.ix (.v 3) (.c (.int 0))) (.c (.str [100,114,111,112]))) (.cons (.for (.one 4) (.seq (.ix (.v 3) (.c (.int 1)))) DP) .nil) (.cons (.iff (.cmp .eq (.ix (.v 3) (.c (.int 0))) (.c (.str [107,101,101,112]))) (.cons (.set 2 (.bin .add (.v 2) (.ix (.v 3) (.c (.int 1))))) .nil) .nil) .nil)) .nil
def dY:Fn:=⟨1,5,.cons (.set 1 .gf) (.cons (.set 2 (.c (.int 0))) (.cons (.for (.one 3) (.seq (.v 0)) vG) (.cons (.ret (.v 1)) .nil)))⟩
def fQ:List (Int×Ξ)->Int->List Nat->Θ
 |k,_,[]=>k
 |k,p,c :: s=>fQ (Ev.cF k p [c]) (p+1) s
def aW:List V->Int->List (Int×Ξ)->Option Θ
 |[],_,k=>some k
 |.tup [.str w,.str s] :: r,p,k=>if w=[100,114,111,112]then (if k.length+s.length<=100000 then aW r (p+s.length) (fQ k p s)else none)else if w=[107,101,101,112]then none else aW r p k
 |.tup [.str w,.int i] :: r,p,k=>if w=[107,101,101,112]then aW r (p+i) k else none
 |_ :: _,_,_=>none
open Classical in
def oz(fn:Fn)(ds:List Sl):Option (V×List (T2)):=if fn=dY then match ds with
  |[.val (.tup l)]=>(aW l 0 []).map λk=>(.dct k,[])
  |_=>none
 else none
abbrev di:=Nat->List Sl->Option Nat
def BP(X:di)(f:Nat)(as:List (Nat ⊕ V))(fr:Fr):Option Nat:=if (bO as).Nodup then (args fr as).bind (X f)else none
mutual
noncomputable def xe(P:aE)(X:di):E->Fr->Option Nat
 |.cl f es,fr=>match eL P es fr with
  |.ok a b=>BP X f a b
  |.bad=>xV P X es fr
 |_,_=>none
noncomputable def xV(P:aE)(X:di):Es->Fr->Option Nat
 |.nil,_=>none
 |.cons e es,fr=>match ig fr e with
  |some _=>xV P X es fr
  |none=>match ev P false e fr with
   |.ok _ a=>xV P X es a
   |.bad=>xe P X e fr
end
mutual
noncomputable def xs(P:aE)(X:di)(w:Nat):S->Fr->Option Nat
 |.eG c,_=>if c<9 then some c else none
 |.set _ e,fr=>xe P X e fr
 |.exp e,fr=>xe P X e fr
 |.ret e,fr=>xe P X e (gM fr)
 |.iff t a b,fr=>match bu P t fr with
  |.ok k d=>if k then xss P X w a d else xss P X w b d
  |.bad=>xe P X t fr
 |_,_=>none
noncomputable def xss(P:aE)(X:di)(w:Nat):Ss->Fr->Option Nat
 |.nil,_=>none
 |.cons s ss,fr=>match ex P w s fr with
  |.ok .nx ah=>xss P X w ss ah
  |.ok _ _=>none
  |.bad=>xs P X w s fr
end
def Sl.ig:Sl->Bool
 |.val _=>true
 |_=>false
def nv(X:di)(f:Nat)(ds:List Sl):Option (V×List (T2)):=if Ev.xo<=f/\ds.all Sl.ig=true then (X (f - Ev.xo) ds).map λ(c:Nat)=>((.int (c:Int),[]):V×List (T2))else none
def runs(F:List Fn)(w:Nat):Nat->aE×di
 |0=>(λ_ _=>none,λ_ _=>none)
 |n+1=>
  let X:di:=λf ds=>match F[f]? with
   |some a=>if ds.length=a.np then xss (runs F w n).1 (runs F w n).2 w a.body (cW a ds)else none
   |none=>none
  (λf ds=>match F[f]? with
   |some a=>if ds.length=a.np then match exs ((runs F w n).1) w a.body (cW a ds)with
     |.ok (.ret v) fr=>some (v,outs a.np fr)
     |.ok .nx fr=>some (.aU,outs a.np fr)
     |_=>oz a ds
    else none
   |none=>nv X f ds,X)
def run(F:List Fn)(w n:Nat):aE:=(runs F w n).1
def dP(F:List Fn)(w n:Nat):di:=(runs F w n).2
def fy(F:List Fn)(w n f:Nat)(ds:List Sl):run F w (n+1) f ds=match F[f]? with
   |some a=>if ds.length=a.np then match exs (run F w n) w a.body (cW a ds)with
     |.ok (.ret v) fr=>some (v,outs a.np fr)
     |.ok .nx fr=>some (.aU,outs a.np fr)
     |_=>oz a ds
    else none
   |none=>nv (dP F w (n+1)) f ds:=nd rfl
def iW(F:List Fn)(w n f:Nat)(ds:List Sl):dP F w (n+1) f ds=match F[f]? with
   |some a=>if ds.length=a.np then xss (run F w n) (dP F w n) w a.body (cW a ds)else none
   |none=>none:=nd rfl
open Ev (O Hh bw)
section
variable(h:Hh)(S:X9)
mutual
def Rep:V->D->Prop
 |.aU,d=>d=.aU
 |.bl b,d=>d=.bl b
 |.int i,d=>d=.int i
 |.str s,d=>d=.str s
 |.tup l,d=>∃ds,d=.tup ds/\au l ds
 |.lst l,d=>∃n ds,d=.ref n/\S n/\h[n]?=some (.lst ds)/\au l ds
 |.bQ l,d=>∃n ds,d=.ref n/\S n/\h[n]?=some (.bQ ds)/\au l ds
 |.dct kvs,d=>∃n,d=.ref n/\S n/\h[n]?=some (.dct kvs)
def au:List V->List D->Prop
 |[],ds=>ds=[]
 |v :: vs,ds=>∃d es,ds=d :: es/\Rep v d/\au vs es
end
def bV:V->D->Prop
 |.lst l,d=>∃n ds,d=.ref n/\h[n]?=some (.lst ds)/\au h S l ds
 |v,d=>Rep h S v d
def iA:List V->List D->Prop
 |[],ds=>ds=[]
 |v :: vs,ds=>∃d es,ds=d :: es/\bV h S v d/\iA vs es
end
abbrev U:X9:=λ_=>True
section
variable{h h':Hh}{S S':X9}
mutual
theorem Rep.mono(f:∀m,S m->h'[m]?=h[m]?)(g:∀m,S m->S' m):∀{v:V}{d:D},Rep h S v d->Rep h' S' v d
 |.aU,_,q=>q
 |.bl _,_,q=>q
 |.int _,_,q=>q
 |.str _,_,q=>q
 |.tup l,_,⟨ds,a,b⟩=>⟨ds,a,au.mono f g b⟩
 |.lst l,_,⟨n,ds,a,b,c,e⟩=>⟨n,ds,a,g n b,by rw[f n b];exact c,au.mono f g e⟩
 |.bQ l,_,⟨n,ds,a,b,c,e⟩=>⟨n,ds,a,g n b,by rw[f n b];exact c,au.mono f g e⟩
 |.dct kvs,_,⟨n,a,b,c⟩=>⟨n,a,g n b,by rw[f n b];exact c⟩
theorem au.mono(f:∀m,S m->h'[m]?=h[m]?)(g:∀m,S m->S' m):∀{v:T2}{d:T1},au h S v d->au h' S' v d
 |[],_,q=>q
 |_ :: _,_,⟨d,es,a,b,c⟩=>⟨d,es,a,Rep.mono f g b,au.mono f g c⟩
end
def au.nil:au h S [] []:=by simp[au]
def au.cons(a:Rep h S v d)(b:au h S vs ds):au h S (v :: vs) (d :: ds):=by exact⟨d,ds,rfl,a,b⟩
def Rep.top(q:Rep h S v d):bV h S v d:=by
 cases v<;>first|exact q | (obtain⟨n,ds,a,b,c,e⟩:=q;exact⟨n,ds,a,c,e⟩)
def bV.u(q:bV h S v d):Rep h U v d:=by
 cases v with
 |lst l=>obtain⟨n,ds,a,b,c⟩:=q;exact⟨n,ds,a,trivial,b,c.mono (λ_ _=>rfl) λ_ _=>trivial⟩
 |_=>exact Rep.mono (S:=S) (λ_ _=>rfl) (λ_ _=>trivial) q
def au.u(q:au h S v d):au h U v d:=q.mono (λ_ _=>rfl) λ_ _=>trivial
theorem bV.mono(f:∀m,m<h.length->h'[m]?=h[m]?)(k:∀m,S m->m<h.length)(g:∀m,S m->S' m)(q:bV h S v d):bV h' S' v d:=by
 cases v with
 |lst l=>
  obtain⟨n,ds,a,b,c⟩:=q;exact⟨n,ds,a,by rw[f n (gL b).1];exact b,c.mono (λm z=>f m (k m z)) g⟩
 |_=>exact Rep.mono (λm z=>f m (k m z)) g q
theorem au.length:∀{v:T2}{d:T1},au h S v d->v.length=d.length
 |[],_,q=>by subst q;rfl
 |_ :: _,_,q=>by obtain⟨d,a,rfl,_,c⟩:=q;simp[c.length]
theorem au.get:∀{v:T2}{d:T1}{i:Nat}{x:V},au h S v d->v[i]?=some x->∃y,d[i]?=some y/\Rep h S x y
 |[],_,_,_,_,e=>by simp at e
 |_ :: _,_,0,_,q,e=>by
  obtain⟨d,f,rfl,b,_⟩:=q;simp at e;subst e;exact⟨d,by simp,b⟩
 |_ :: _,_,i+1,_,q,e=>by
  obtain⟨d,f,rfl,_,c⟩:=q;obtain⟨y,a,b⟩:=c.get (by simpa using e);exact⟨y,by simpa using a,b⟩
theorem au.append:∀{v w:T2}{d e:T1},au h S v d->au h S w e->au h S (v++w) (d++e)
 |[],_,_,_,a,b=>by subst a;simpa using b
 |_ :: _,_,_,_,a,b=>by
  obtain⟨d,c,rfl,x,y⟩:=a;exact .cons x (y.append b)
theorem au.take:∀{v:T2}{d:T1}(n:Nat),au h S v d->au h S (v.take n) (d.take n)
 |_,_,0,_=>by simp[au]
 |[],_,_+1,a=>by subst a;simp[au]
 |_ :: _,_,n+1,a=>by
  obtain⟨d,b,rfl,x,y⟩:=a;exact .cons x (y.take n)
theorem au.drop:∀{v:T2}{d:T1}(n:Nat),au h S v d->au h S (v.drop n) (d.drop n)
 |_,_,0,a=>by simpa using a
 |[],_,_+1,a=>by subst a;simp[au]
 |_ :: _,_,n+1,a=>by
  obtain⟨d,b,rfl,x,y⟩:=a;exact y.drop n
theorem au.set:∀{v:T2}{d:T1}(j:Nat) {x:V}{y:D},au h S v d->Rep h S x y->au h S (v.set j x) (d.set j y)
 |[],_,_,_,_,a,_=>by subst a;simp[au]
 |_ :: _,_,0,_,_,a,b=>by
  obtain⟨d,c,rfl,x,y⟩:=a;exact .cons b y
 |_ :: _,_,j+1,_,_,a,b=>by
  obtain⟨d,c,rfl,x,y⟩:=a;exact .cons x (y.set j b)
theorem au.dropLast:∀{v:T2}{d:T1},au h S v d->au h S v.dropLast d.dropLast:=λ{v d} a=>by
 rw[aa2,aa2,a.length];exact a.take _
theorem au.reverse:∀{v:T2}{d:T1},au h S v d->au h S v.reverse d.reverse
 |[],_,a=>by subst a;simp[au]
 |_ :: _,_,a=>by
  obtain⟨d,b,rfl,x,y⟩:=a;simp only[Z0];exact y.reverse.append (.cons x .nil)
theorem au.rep(a:au h S v d):∀k:Nat,au h S (Ev.rep k v) (Ev.rep k d)
 |0=>by simp[Ev.rep,au]
 |k+1=>by
  have z:=au.rep a k;exact a.append z
theorem au.cut(a:au h S v d)(lo hi:Option Int):au h S (Ev.cut v lo hi) (Ev.cut d lo hi):=by
 unfold Ev.cut;rw[a.length];exact(a.drop _).take _
theorem au.map{α:Type}{f:α->V}{g:α->D}(q:∀a,Rep h S (f a) (g a)):∀l:List α,au h S (l.map f) (l.map g)
 |[]=>.nil
 |_ :: l=>.cons (q _) (au.map q l)
mutual
theorem Rep.uniq:∀{v w:V}{d:D},Rep h U v d->Rep h U w d->v=w
 |.aU,w,_,a,b=>by simp only[Rep]at a;subst a;cases w<;>simp[Rep]at b<;>rfl
 |.bl _,w,_,a,b=>by simp only[Rep]at a;subst a;cases w<;>simp[Rep]at b<;>rw[b]
 |.int _,w,_,a,b=>by simp only[Rep]at a;subst a;cases w<;>simp[Rep]at b<;>rw[b]
 |.str _,w,_,a,b=>by simp only[Rep]at a;subst a;cases w<;>simp[Rep]at b<;>rw[b]
 |.tup l,w,_,a,b=>by
  simp only[Rep]at a;obtain⟨ds,rfl,a⟩:=a;cases w<;>simp[Rep]at b
  rw[au.uniq a b]
 |.lst l,w,_,a,b=>by
  simp only[Rep]at a;obtain⟨n,ds,rfl,_,e,a⟩:=a;cases w<;>simp[Rep]at b
  .obtain⟨f,c,b⟩:=b;rw[e]at c;cases c;rw[au.uniq a b]
  .obtain⟨f,c,b⟩:=b;rw[e]at c;cases c
  .rw[e]at b;cases b
 |.bQ l,w,_,a,b=>by
  simp only[Rep]at a;obtain⟨n,ds,rfl,_,e,a⟩:=a;cases w<;>simp[Rep]at b
  .obtain⟨f,c,b⟩:=b;rw[e]at c;cases c
  .obtain⟨f,c,b⟩:=b;rw[e]at c;cases c;rw[au.uniq a b]
  .rw[e]at b;cases b
 |.dct kvs,w,_,a,b=>by
  simp only[Rep]at a;obtain⟨n,rfl,_,e⟩:=a;cases w<;>simp[Rep]at b
  .obtain⟨f,c,b⟩:=b;rw[e]at c;cases c
  .obtain⟨f,c,b⟩:=b;rw[e]at c;cases c
  .rw[e]at b;cases b;rfl
theorem au.uniq:∀{v w:T2}{d:T1},au h U v d->au h U w d->v=w
 |[],w,_,a,b=>by simp only[au]at a;subst a;cases w<;>simp[au]at b;rfl
 |x :: xs,w,_,a,b=>by
  simp only[au]at a;obtain⟨d,l,rfl,c,f⟩:=a;cases w<;>simp only[au]at b
  .cases b
  obtain⟨o,g,e,i,j⟩:=b;cases e;rw[Rep.uniq c i,au.uniq f j]
end
theorem xW(f:∀v b,gp n v v=some b->b=true):∀l b,cP (gp n) l l=some b->b=true
 |[],b,e=>by simp[cP]at e;exact e
 |x :: xs,b,e=>by
  simp only[cP,Zz]at e;obtain⟨c,a,d,g,e⟩:=e;rw[f x c a,xW f xs d g]at e;simpa using e.symm
theorem xX:∀n v b,gp n v v=some b->b=true
 |0,_,_,e=>by exists e
 |n+1,v,b,e=>by
  cases v<;>first|exact xW (xX n) _ _ e | (exists e<;>first|rfl|exact beq_self_eq_true _)
theorem xY(f:∀{v w:V}{d e:D}{b},gp n v w=some b->Rep h U v d->Rep h U w e->Ev.jR h n d e=some b):∀{l m:T2}{ds es:T1}{b},cP (gp n) l m=some b->au h U l ds->au h U m es->Ev.cP (Ev.jR h n) ds es=some b
 |[],[],_,_,b,e,p,q=>by subst p q;simpa[cP,Ev.cP]using e
 |[],_ :: _,_,_,b,e,p,q=>by subst p;obtain⟨_,_,rfl,_⟩:=q;simpa[cP,Ev.cP]using e
 |_ :: _,[],_,_,b,e,p,q=>by subst q;obtain⟨_,_,rfl,_⟩:=p;simpa[cP,Ev.cP]using e
 |x :: xs,y :: ys,_,_,b,e,p,q=>by
  obtain⟨d,ds,rfl,a,g⟩:=p;obtain⟨A,i,rfl,j,o⟩:=q;simp only[cP,Zz]at e;obtain⟨c,r,B,z,e⟩:=e;simp[Ev.cP,f r a j,xY f z g o];simpa using e
def jw(q:h[n]?=some (.lst ds)):bw h n=some ds:=by simp[bw,q]
def j4(q:h[n]?=some (.bQ ds)):bw h n=some ds:=by simp[bw,q]
theorem l6:∀(n:Nat) {v w:V}{d e:D}{b},gp n v w=some b->Rep h U v d->Rep h U w e->Ev.jR h n d e=some b
  |0,_,_,_,_,_,e,_,_=>by cases e
  |n+1,v,w,d,e,b,x,p,q=>by
    by_cases o:∃m,d=.ref m/\e=.ref m
    . obtain⟨m,rfl,rfl⟩:=o;have j:=p.uniq q;subst j;have r:=xX _ _ _ x;subst r;cases v<;>simp[Rep]at p
      . obtain⟨ds,f,y⟩:=p;show Ev.kC _ _ _ _=_;rw[Ev.kC,gV rfl,jw f];rfl
      . obtain⟨ds,f,y⟩:=p;show Ev.kC _ _ _ _=_;rw[Ev.kC,gV rfl,j4 f];rfl
      . cases x
    . cases v<;>cases w<;>simp only[Rep]at p q <;>
      first
      | (subst p;subst q;exact x)
      | (obtain⟨ds,rfl,p⟩:=p;subst q;exact x)
      | (obtain⟨ds,rfl,q⟩:=q;subst p;exact x)
      | (obtain⟨ds,rfl,p⟩:=p;obtain⟨i,rfl,q⟩:=q;exact xY (λa b c=>l6 n a b c) x p q)
      | (cases x;done)
      | (obtain⟨m,ds,rfl,_,f,p⟩:=p;obtain⟨k,i,rfl,_,g,q⟩:=q
         have l:m≠k:=λz=>o ⟨m,rfl,by rw[z]⟩;show Ev.kC _ _ _ _=_;rw[Ev.kC,Yl l,f,g];exact xY (λa b c=>l6 n a b c) x p q)
      | (cases x;obtain⟨m,ds,rfl,_,f,p⟩:=p;subst q;exact ZJ (Option.map λ_=>false) (jw f))
      | (cases x;obtain⟨m,ds,rfl,_,f,p⟩:=p;subst q;exact ZJ (Option.map λ_=>false) (j4 f))
      | (cases x;obtain⟨m,ds,rfl,_,f,p⟩:=p;obtain⟨i,rfl,q⟩:=q;exact ZJ (Option.map λ_=>false) (jw f))
      | (cases x;obtain⟨m,ds,rfl,_,f,p⟩:=p;obtain⟨i,rfl,q⟩:=q;exact ZJ (Option.map λ_=>false) (j4 f))
      | (cases x;obtain⟨m,ds,rfl,_,g,q⟩:=q;subst p;exact ZJ (Option.map λ_=>false) (jw g))
      | (cases x;obtain⟨m,ds,rfl,_,g,q⟩:=q;subst p;exact ZJ (Option.map λ_=>false) (j4 g))
      | (cases x;obtain⟨m,ds,rfl,_,g,q⟩:=q;obtain⟨i,rfl,p⟩:=p;exact ZJ (Option.map λ_=>false) (jw g))
      | (cases x;obtain⟨m,ds,rfl,_,g,q⟩:=q;obtain⟨i,rfl,p⟩:=p;exact ZJ (Option.map λ_=>false) (j4 g))
end
structure Al(h:Hh)(S:X9)(h':Hh)(S':X9):Prop where
 len:h.length<=h'.length
 keep:∀m,m<h.length->h'[m]?=h[m]?
 sub:∀m,S m->S' m
 new:∀m,S' m->S m\/(h.length<=m/\m<h'.length)
section
variable{h h':Hh}{S S':X9}
def Al.refl:Al h S h S:=⟨Zw _,λ_ _=>rfl,λ_ q=>q,λ_ q=>.inl q⟩
def Al.snoc(o:O):Al h S (h++[o]) (λm=>S m\/m=h.length) where
 len:=by simp
 keep:=λm q=>by rw[oW q]
 sub:=λ_ q=>.inl q
 new:=λm q=>by
  rcases q with q|q
  .exact .inl q
  .subst q;exact .inr ⟨Zw _,by simp⟩
def jc(w:∀m,S m->m<h.length)(e:dX l=some v)(q:au h S l ds):∃r h' S',Ev.alloc ds h=.ok r h'/\Rep h' S' v r/\Al h S h' S':=by
 unfold dX at e;split at e
 .rename_i z
  exists e
  refine⟨.ref h.length,h++[.lst ds],λm=>S m\/m=h.length,by unfold Ev.alloc;rw[gV (by rw[<-q.length];exact z)],?_,Al.snoc _⟩;refine⟨h.length,ds,rfl,.inr rfl,by simp,q.mono (λm z=>?_) λ_ z=>.inl z⟩;rw[oW (w m z)]
 ·exists e
def l7(e:oq v=some l)(q:bV h S v d):∃n ds,d=.ref n/\bw h n=some ds/\au h S l ds:=by
 cases v<;>simp[oq]at e
 .subst e;obtain⟨n,ds,rfl,a,b⟩:=q;exact⟨n,ds,rfl,jw a,b⟩
 .subst e;obtain⟨n,ds,rfl,_,a,b⟩:=q;exact⟨n,ds,rfl,j4 a,b⟩
mutual
theorem oA:∀{d:D}{v:V},ofD d=some v->Rep h S v d
 |.aU,_,e=>by simp[ofD]at e;subst e;simp[Rep]
 |.bl _,_,e=>by simp[ofD]at e;subst e;simp[Rep]
 |.int _,_,e=>by simp[ofD]at e;subst e;simp[Rep]
 |.str _,_,e=>by simp[ofD]at e;subst e;simp[Rep]
 |.ref _,_,e=>by simp[ofD]at e
 |.tup ds,_,e=>by
  simp[ofD]at e;obtain⟨a,e,rfl⟩:=e;exact⟨ds,rfl,Ah e⟩
theorem Ah:∀{d:T1}{v:T2},xS d=some v->au h S v d
 |[],_,e=>by simp[xS]at e;subst e;exact .nil
 |d :: ds,_,e=>by
  simp only[xS,Zz,Uw]at e;obtain⟨v,a,c,b,rfl⟩:=e;exact .cons (oA a) (Ah b)
end
def au.emp(q:au h S l ds):ds.isEmpty=l.isEmpty:=by
 have:=q.length;cases l<;>cases ds<;>simp at this ⊢
def OR(z:OM v=some kvs)(p:bV h S v d):∃n,d=.ref n/\h[n]?=some (.dct kvs):=by
 cases v<;>simp only[OM,reduceCtorEq,abS]at z
 subst z;obtain⟨n,rfl,_,a⟩:=p;exact⟨n,rfl,a⟩
def DQ(q:bV h S v d):Ev.truthy h d=some (truthy v):=by
 cases v<;>simp only[bV,Rep]at q
 .subst q;rfl
 .subst q;rfl
 .subst q;rfl
 .subst q;rfl
 .obtain⟨ds,rfl,q⟩:=q;simp only[Ev.truthy,truthy,q.emp]
 .obtain⟨n,ds,rfl,a,q⟩:=q;simp only[Ev.truthy,truthy,jw a,Option.map,q.emp];first|done|rw[a]
 .obtain⟨n,ds,rfl,_,a,q⟩:=q;simp only[Ev.truthy,truthy,j4 a,Option.map,q.emp];first|done|rw[a]
 .obtain⟨n,rfl,_,a⟩:=q;simp only[Ev.truthy,truthy];rw[a]
def nn{α:Type}{v:α}{p:Prop}(z:none=some v):p:=Option.noConfusion rfl (heq_of_eq z)
def OS(w:∀m,S m->m<h.length)(z:bX o x y=some v)(p:bV h S x d)(q:bV h S y e):∃r h' S',Ev.bX o d e h=.ok r h'/\Rep h' S' v r/\Al h S h' S':=by
 cases o<;>cases x<;>first|exact nn z | (cases y<;>first|exact nn z|skip)
 all_goals (delta bX at z;dsimp only at z;simp only[bV,Rep]at p q)
 ·exists z;exact⟨_,_,S,rfl,rfl,.refl⟩
 .split at z
  .rename_i k;exists z;exact⟨_,_,S,by delta Ev.bX;dsimp only;rw[gV k],rfl,.refl⟩
  ·exists z
 .obtain⟨ds,rfl,p⟩:=p;obtain⟨c,rfl,q⟩:=q;split at z
  .rename_i k;exists z;exact⟨_,_,S,by delta Ev.bX;dsimp only;rw[gV (by rw[<-p.length,<-q.length];exact k)],⟨_,rfl,p.append q⟩,.refl⟩
  ·exists z
 .obtain⟨n,ds,rfl,a,p⟩:=p;obtain⟨m,c,rfl,b,q⟩:=q
  delta Ev.bX;simp only[a,b]
  exact jc w z (p.append q)
 ·exists z;exact⟨_,_,S,rfl,rfl,.refl⟩
 .split at z
  .rename_i k;exists z;exact⟨_,_,S,by delta Ev.bX;dsimp only;rw[gV k],rfl,.refl⟩
  ·exists z
 .subst p q;split at z
  .rename_i k;exists z;exact⟨_,_,S,by delta Ev.bX;dsimp only;rw[gV k],rfl,.refl⟩
  ·exists z
 .obtain⟨ds,rfl,p⟩:=p;subst q;split at z
  .rename_i k;exists z;exact⟨_,_,S,by delta Ev.bX;dsimp only;rw[gV (by rw[<-p.length];exact k)],⟨_,rfl,p.rep _⟩,.refl⟩
  ·exists z
 .obtain⟨n,ds,rfl,a,p⟩:=p;subst q;split at z
  .rename_i k
   delta Ev.bX;dsimp only;simp only[a]
   rw[gV (by rw[<-p.length];exact k)];exact jc w z (p.rep _)
  ·exists z
 .subst p q;split at z
  .rename_i k;exists z;exact⟨_,_,S,by delta Ev.bX;dsimp only;rw[gV k],rfl,.refl⟩
  ·exists z
 .subst p q;split at z
  .rename_i k;exists z;exact⟨_,_,S,by delta Ev.bX;dsimp only;rw[gV k],rfl,.refl⟩
  ·exists z
def OT(z:cop o x y=some b)(p:Rep h U x d)(q:Rep h U y e):Ev.cop o d e h=some b:=by
 cases o
 case eq=>delta cop at z;delta Ev.cop;exact l6 deep z p q
 case ne=>
  delta cop at z;simp only[Uw]at z;obtain⟨c,z,rfl⟩:=z
  delta Ev.cop;simp only[l6 deep z p q];rfl
 case uT=>
  cases y <;> (delta cop at z;dsimp only at z) <;> (try simp only[reduceCtorEq]at z)
  subst q;cases x<;>simp only[Rep]at p <;> (try obtain⟨_,rfl,_⟩:=p) <;> (try obtain⟨_,_,rfl,_⟩:=p) <;> (try subst p) <;> (delta Ev.cop;simpa using z)
 case mR=>
  cases y <;> (delta cop at z;dsimp only at z) <;> (try simp only[reduceCtorEq]at z)
  subst q;cases x<;>simp only[Rep]at p <;> (try obtain⟨_,rfl,_⟩:=p) <;> (try obtain⟨_,_,rfl,_⟩:=p) <;> (try subst p) <;> (delta Ev.cop;dsimp only;simpa using z)
 all_goals (
  cases x<;>first|exact nn z | (cases y<;>first|exact nn z|skip)
  simp only[Rep]at p q;subst p q;exact z)
def BQ(e:bM l i=some v)(q:au h S l ds):∃d,bM ds i=some d/\Rep h S v d:=by
 unfold bM at e ⊢;rw[q.length]at e;cases z:dU ds.length i with
 |none=>rw[z]at e;exists e
 |some j=>rw[z]at e;exact q.get e
def OU(z:eK x y=some v)(p:bV h S x d)(q:bV h S y e):∃r,Ev.eK d e h=some r/\Rep h S v r:=by
 cases x<;>cases y<;>simp only[eK,reduceCtorEq]at z<;>simp only[bV,Rep]at p q
 .subst p q;simp only[Uw]at z;obtain⟨c,z,rfl⟩:=z;exact⟨.str [c],by delta Ev.eK;simp[z],rfl⟩
 .obtain⟨ds,rfl,p⟩:=p;subst q;delta Ev.eK;simpa using BQ z p
 .obtain⟨n,ds,rfl,a,p⟩:=p;subst q;delta Ev.eK;simpa[jw a]using BQ z p
 .obtain⟨n,ds,rfl,_,a,p⟩:=p;subst q;delta Ev.eK;simpa[j4 a]using BQ z p
def OV(w:∀m,S m->m<h.length)(z:ji x lo hi=some v)(p:bV h S x d):∃r h' S',Ev.ji d lo hi h=.ok r h'/\Rep h' S' v r/\Al h S h' S':=by
 cases x<;>simp only[ji,reduceCtorEq]at z<;>simp only[bV,Rep]at p
 ·exists z;exact⟨_,_,S,rfl,rfl,.refl⟩
 .obtain⟨ds,rfl,p⟩:=p;exists z;exact⟨_,_,S,rfl,⟨_,rfl,p.cut _ _⟩,.refl⟩
 .obtain⟨n,ds,rfl,a,p⟩:=p;simp only[Ev.ji,jw a];exact jc w z (p.cut _ _)
 .obtain⟨n,ds,rfl,_,a,p⟩:=p;simp only[Ev.ji,j4 a];exact jc w z (p.cut _ _)
def OW(z:toT x=some v)(p:bV h S x d):∃r,Ev.tU d h=.ok r h/\Rep h S v r:=by
 cases x<;>simp only[toT,reduceCtorEq]at z<;>simp only[bV,Rep]at p
 .obtain⟨ds,rfl,p⟩:=p;exists z;exact⟨_,rfl,⟨_,rfl,p⟩⟩
 .obtain⟨n,ds,rfl,a,p⟩:=p;unfold kF at z;split at z
  .rename_i k;exists z;refine⟨.tup ds,?_,⟨_,rfl,p⟩⟩;simp only[Ev.tU,jw a];rw[gV (by rw[<-p.length];exact k)]
  ·exists z
 .obtain⟨n,ds,rfl,_,a,p⟩:=p;unfold kF at z;split at z
  .rename_i k;exists z;refine⟨.tup ds,?_,⟨_,rfl,p⟩⟩;simp only[Ev.tU,j4 a];rw[gV (by rw[<-p.length];exact k)]
  ·exists z
def Ai(z:oq x=some l)(p:bV h S x d):∃s,Ev.Bh h d=some s/\au h S l s.1/\(∀q∈s.2,d=.ref q.1/\bw h q.1=some q.2):=by
 obtain⟨n,ds,rfl,a,q⟩:=l7 z p;exact⟨(ds,[(n,ds)]),by simp[Ev.Bh,a],q,by simp[a]⟩
theorem xZ:∀{l:T2}{ds:T1}{bs},boolsOf l=some bs->au h S l ds->Ev.boolsOf ds=some bs
 |[],_,_,e,q=>by subst q;exact e
 |x :: xs,_,bs,e,q=>by
  cases x<;>simp only[boolsOf,reduceCtorEq,Uw]at e
  obtain⟨r,e,rfl⟩:=e;obtain⟨_,ds,rfl,rfl,q⟩:=q;simp[Ev.boolsOf,xZ e q]
theorem uo:∀{l:T2}{ds:T1}{bs},intsOf l=some bs->au h S l ds->Ev.intsOf ds=some bs
 |[],_,_,e,q=>by subst q;exact e
 |x :: xs,_,bs,e,q=>by
  cases x<;>simp only[intsOf,reduceCtorEq,Uw]at e
  obtain⟨r,e,rfl⟩:=e;obtain⟨_,ds,rfl,rfl,q⟩:=q;simp[Ev.intsOf,uo e q]
theorem Aj:∀{l:T2}{ds:T1}{bs},strsOf l=some bs->au h S l ds->Ev.strsOf ds=some bs
 |[],_,_,e,q=>by subst q;exact e
 |x :: xs,_,bs,e,q=>by
  cases x<;>simp only[strsOf,reduceCtorEq,Uw]at e
  obtain⟨r,e,rfl⟩:=e;obtain⟨_,ds,rfl,rfl,q⟩:=q;simp[Ev.strsOf,Aj e q]
def iA.one(q:iA h S [v] ds):∃d,ds=[d]/\bV h S v d:=by
 simp only[iA]at q;obtain⟨d,b,rfl,a,rfl⟩:=q;exact⟨d,rfl,a⟩
def OX{xs:T2}(w:∀m,S m->m<h.length)(z:cQ b xs=some v)(p:iA h S xs ds):∃r h' S',Ev.cQ b ds h=.ok r h'/\Rep h' S' v r/\Al h S h' S':=by
 delta cQ at z
 rcases xs with _|⟨x,_|⟨y,_|⟨u,xs⟩⟩⟩
 .cases b<;>exact nn z
 .obtain⟨d,rfl,c⟩:=p.one;cases b
  case len=>
   cases x
   case str s=>
    dsimp only at z;split at z
    .rename_i k;exists z;exact⟨_,_,S,by delta Ev.cQ;dsimp only;rw[gV k],rfl,.refl⟩
    ·exists z
   case tup l=>
    obtain⟨e,rfl,F⟩:=c
    exists z;exact⟨_,_,S,rfl,by simp[Rep,F.length],.refl⟩
   all_goals
    simp only[Uw]at z;obtain⟨l,z,rfl⟩:=z;obtain⟨n,e,rfl,a,q⟩:=l7 z c;exact⟨.int e.length,h,S,by delta Ev.cQ;simp[a],by simp[Rep,q.length],.refl⟩
  case all=>
   simp only[Uw,Zz]at z;obtain⟨bs,⟨l,z,o⟩,rfl⟩:=z;obtain⟨n,e,rfl,a,q⟩:=l7 z c;exact⟨_,_,S,by delta Ev.cQ;simp only[a,Option.bind,xZ o q];rfl,rfl,.refl⟩
  case sum=>
   dsimp only at z;simp only[Uw,Zz]at z;obtain⟨bs,⟨l,z,o⟩,rfl⟩:=z;obtain⟨n,e,rfl,a,q⟩:=l7 z c;exact⟨_,_,S,by delta Ev.cQ;dsimp only;simp only[a,Option.bind,uo o q];rfl,rfl,.refl⟩
  case min=>cases x<;>exact nn z
  case kQ=>
   dsimp only at z;simp only[Zz]at z;obtain⟨H,⟨l,z,o⟩,B⟩:=z;obtain⟨n,e,rfl,a,q⟩:=l7 z c;split at B
   .rename_i A
    delta Ev.cQ;dsimp only;simp only[a,Option.bind,uo o q]
    rw[gV A];exact jc w B (au.map (f:=V.int) (g:=D.int) (λs=>by simp[Rep]) _)
   .cases B
  case mS=>
   dsimp only at z;obtain⟨C,G,z⟩:=Option.bind_eq_some_iff.mp z;obtain⟨n,rfl,a⟩:=OR G c;by_cases A:C.length<64
   .rw[gV A]at z
    delta Ev.cQ;dsimp only;simp only[Ev.eW,a]
    rw[gV A];exact jc w z (au.map (f:=V.int) (g:=D.int) (λs=>by simp[Rep]) _)
   .rw[Yl A]at z;cases z
 .cases b
  case min=>
   cases x
   case int i=>
    cases y
    case int j=>
     dsimp only at z;simp only[iA,bV,Rep]at p;obtain⟨_,_,rfl,rfl,_,_,rfl,rfl,rfl⟩:=p;cases z;exact⟨_,_,S,rfl,rfl,.refl⟩
    all_goals exact nn z
   all_goals exact nn z
  case len=>cases x<;>exact nn z
  all_goals exact nn z
 .cases b
  case min=>cases x <;> (try cases y)<;>exact nn z
  case len=>cases x<;>exact nn z
  all_goals exact nn z
def OY{xs:T2}(z:fK m o xs=some v)(I:jG m=false)(Z:bV h S o d)(p:iA h S xs ds):Ev.zA m d h=true/\∃r,Ev.fK m d ds h=.ok r h/\Rep h S v r:=by
 unfold fK at z;split at z
 .obtain⟨d,rfl,c⟩:=p.one;simp only[Zz]at z;obtain⟨f,⟨l,z,e⟩,b⟩:=z;obtain⟨n,g,rfl,a,q⟩:=l7 z c;split at b
  .rename_i k;exists b;refine⟨rfl,_,?_,rfl⟩
   delta Ev.fK;simp only[a,Option.bind,Aj e q]
   rw[gV k]
  ·exists b
 ·exists z
def KQ(f:vQ x=true)(p:Rep h U x d):Rep [] U x d:=by
 cases x<;>simp only[vQ,aaD]at f<;>exact p
def Wa(p:Rep h U x d):∀{kvs:List (D×D)}{v:V},mT x kvs=some v->∃r,Ev.mT d kvs=some r/\Rep h S v r:=by
 intro kvs v z;unfold mT at z;split at z
 .rename_i f;have c:=KQ f p;induction kvs with
  |nil=>exists z
  |cons e r g=>
   obtain⟨k,u⟩:=e;simp only[BL]at z;simp only[Ev.mT];split at z
   .rename_i y;simp only[Zz]at y;obtain⟨i,a,b⟩:=y;rw[l6 1 b (oA a) c];exact⟨u,rfl,oA z⟩
   .rename_i y;simp only[Zz]at y;obtain⟨i,a,b⟩:=y;rw[l6 1 b (oA a) c];exact g z
   ·exists z
 ·exists z
def Gz(z:fM x=some l)(p:bV h S x d):∃s,Ev.fM h d=some s/\au h S l s.1/\(∀q∈s.2,d=.ref q.1/\bw h q.1=some q.2):=by
 cases x<;>simp only[fM,reduceCtorEq]at z<;>simp only[bV,Rep]at p
 ·exists z;exact⟨_,rfl,au.map (λ_=>by simp[Rep]) _,by simp⟩
 .obtain⟨ds,rfl,p⟩:=p;exists z;exact⟨_,rfl,p,by simp⟩
 .obtain⟨n,ds,rfl,a,p⟩:=p;exists z;exact⟨(ds,[(n,ds)]),by simp[Ev.fM,jw a],p,by simp[jw a]⟩
 .obtain⟨n,ds,rfl,_,a,p⟩:=p;exists z;exact⟨(ds,[(n,ds)]),by simp[Ev.fM,j4 a],p,by simp[j4 a]⟩
def x8(lo:Int)(n:Nat):au h S (range lo n) (Ev.range lo n):=au.map (λ_=>by simp[Rep]) _
def OZ{xs l:T2}(z:fO xs=some l)(p:iA h S xs ds):∃s,Ev.fO ds=some (s,[])/\au h S l s:=by
 unfold fO at z;split at z
 .obtain⟨d,rfl,a⟩:=p.one;split at z
  .rename_i k;exists z;exact⟨_,by delta Ev.fO;dsimp only;rw[gV k],x8 _ _⟩
  ·exists z
 .obtain⟨_,_,rfl,rfl,_,_,rfl,rfl,rfl⟩:=p;split at z
  .rename_i k;exists z;exact⟨_,by delta Ev.fO;dsimp only;rw[gV k],x8 _ _⟩
  ·exists z
 ·exists z
theorem yc:∀{a b:T2}{ds es:T1},au h S a ds->au h S b es->au h S (jt a b) (Ev.jt ds es)
 |[],_,_,_,p,q=>by subst p;simp[jt,Ev.jt,au]
 |_ :: _,[],_,_,p,q=>by subst q;simp[jt,Ev.jt,au]
 |x :: xs,y :: ys,_,_,p,q=>by
  obtain⟨d,ds,rfl,c,f⟩:=p;obtain⟨e,es,rfl,g,i⟩:=q;have:=yc f i;exact .cons ⟨_,rfl,.cons c (.cons g .nil)⟩ this
theorem Ak:∀{a:T2}{ds:T1}(k:Int),au h S a ds->au h S (dj k a) (Ev.dj k ds)
 |[],_,_,p=>by subst p;simp[dj,Ev.dj,au]
 |x :: xs,_,k,p=>by
  obtain⟨d,ds,rfl,b,c⟩:=p;exact .cons ⟨_,rfl,.cons rfl (.cons b .nil)⟩ (Ak _ c)
end
def nj(M B:X9)(h:Hh)(S:X9):Option Sl->Option D->Prop
 |none,p=>p=none
 |some (.val v),p=>∃d,p=some d/\Rep h S v d
 |some (.own l),p=>∃m ds,p=some (.ref m)/\(M m/\¬ B m)/\h[m]?=some (.lst ds)/\au h S l ds
 |some (.bor l),p=>∃m ds,p=some (.ref m)/\(M m/\B m)/\h[m]?=some (.lst ds)/\au h S l ds
 |some (.ro l),p=>∃m ds,p=some (.ref m)/\¬ M m/\h[m]?=some (.lst ds)/\au h S l ds
def oO:Sl->List D->O
 |_,ds=>.lst ds
def iK:Option Sl->Bool
 |some (.own _)=>true
 |some (.bor _)=>true
 |_=>false
def Am:Option Sl->Bool
 |some (.bor _)=>true
 |some (.ro _)=>true
 |_=>false
def locked(fr:Fr)(i:Nat):Bool:=match fr[i]? with
 |some o=>Am o
 |none=>false
structure aY(M B:X9)(h:Hh)(S:X9)(fr:Fr)(aj:Ev.Fr):Prop where
 wS:∀m,S m->m<h.length/\¬ M m/\¬ B m
 wM:∀m,M m->m<h.length
 wB:∀m,B m->m<h.length
 len:fr.length=aj.length
 sl:∀(i:Nat) o p,fr[i]?=some o->aj[i]?=some p->nj M B h S o p
 inj:∀(i j:Nat) o o' m,fr[i]?=some o->fr[j]?=some o'->iK o=true->iK o'=true->aj[i]?=some (some (.ref m))->aj[j]?=some (some (.ref m))->i=j
structure Tk(X:X9)(h:Hh)(S:X9)(h':Hh)(S':X9):Prop where
 len:h.length<=h'.length
 keep:∀m,m<h.length->¬ X m->h'[m]?=h[m]?
 sub:∀m,S m->S' m
 new:∀m,S' m->S m\/(h.length<=m/\m<h'.length)
def Xs(M:X9)(aj:Ev.Fr)(l:Ξ):X9:=λm=>M m/\∃i∈l,aj[i]?=some (some (.ref m))
structure Out(M B:X9)(c:Ξ)(h:Hh)(S:X9)(fr:Fr)(aj:Ev.Fr)(h':Hh)(S':X9)(ah:Fr):Prop where
 f:aY M B h' S' ah aj
 tr:Tk (Xs M aj c) h S h' S'
 lk:∀i,locked ah i=locked fr i
section
variable{M B:X9}{h h' h1 h2:Hh}{S S' S1 S2:X9}{fr ah aq:Fr}{aj:Ev.Fr}{c c1 c2:Ξ}{v:V}{d:D}{X X1 X2:X9}
def aY.get(f:aY M B h S fr aj){i:Nat}(e:fr[i]?=some o):∃p,aj[i]?=some p/\nj M B h S o p:=by
 have h1:=(gL e).1;rw[f.len]at h1;exact⟨aj[i],Zy h1,f.sl i o _ e (Zy h1)⟩
def aY.w(f:aY M B h S fr aj):∀m,S m->m<h.length:=λm q=>(f.wS m q).1
def Al.tr(a:Al h S h' S'):Tk X h S h' S':=⟨a.len,λm q _=>a.keep m q,a.sub,a.new
 ⟩
def Tk.al(t:Tk X h S h' S')(z:∀m,¬ X m):Al h S h' S':=⟨t.len,λm q=>t.keep m q (z m),t.sub,t.new⟩
def Tk.weak(t:Tk X h S h' S')(q:∀m,X m->X1 m):Tk X1 h S h' S':=⟨t.len,λm k z=>t.keep m k λy=>z (q m y),t.sub,t.new
 ⟩
def Tk.trans(a:Tk X1 h S h1 S1)(b:Tk X2 h1 S1 h2 S2):Tk (λm=>X1 m\/X2 m) h S h2 S2 where
 len:=ZL a.len b.len
 keep:=λm q z=>by rw[b.keep m (Uv q a.len) (λy=>z (.inr y)),a.keep m q (λy=>z (.inl y))]
 sub:=λm q=>b.sub m (a.sub m q)
 new:=λm q=>by
  rcases b.new m q with q|⟨e,f⟩
  .rcases a.new m q with q|⟨e,f⟩
   .exact .inl q
   .exact .inr ⟨e,Uv f b.len⟩
  .exact .inr ⟨ZL a.len e,f⟩
theorem Al.trans(a:Al h S h1 S1)(b:Al h1 S1 h2 S2):Al h S h2 S2:=((a.tr (X:=λ_=>False)).trans (b.tr (X:=λ_=>False))).al λm z=>by simp at z
def Tk.refl:Tk X h S h S:=⟨Zw _,λ_ _ _=>rfl,λ_ q=>q,λ_ q=>.inl q
 ⟩
def Xs.app:Xs M aj (l1++l2) m↔Xs M aj l1 m\/Xs M aj l2 m:=by
 constructor
 .rintro⟨a,i,b,e⟩;rcases kS b with b|b
  .exact .inl ⟨a,i,b,e⟩
  .exact .inr ⟨a,i,b,e⟩
 .rintro(⟨a,i,b,e⟩|⟨a,i,b,e⟩)
  .exact⟨a,i,List.mem_append.mpr (.inl b),e⟩
  .exact⟨a,i,List.mem_append.mpr (.inr b),e⟩
def Xs.nil:¬ Xs M aj [] m:=by rintro⟨_,i,hi,_⟩;simp at hi
def Xs.mono(q:∀i∈l1,i∈l2):Xs M aj l1 m->Xs M aj l2 m:=λ⟨a,i,b,e⟩=>⟨a,i,q i b,e⟩
def Rep.tr(q:Rep h S v d)(f:aY M B h S fr aj)(t:Tk (Xs M aj c) h S h' S'):Rep h' S' v d:=q.mono (λm z=>t.keep m (f.wS m z).1 (λy=>(f.wS m z).2.1 y.1)) t.sub
def au.tr(q:au h S l ds)(f:aY M B h S fr aj)(t:Tk (Xs M aj c) h S h' S'):au h' S' l ds:=q.mono (λm z=>t.keep m (f.wS m z).1 (λy=>(f.wS m z).2.1 y.1)) t.sub
def bV.tr(q:bV h S v d)(f:aY M B h S fr aj)(t:Tk X h S h' S')(z:∀m,¬ X m):bV h' S' v d:=q.mono (λm k=>t.keep m k (z m)) f.w t.sub
def nj.al(q:nj M B h S o p)(w:∀m,S m->m<h.length)(a:Al h S h' S'):nj M B h' S' o p:=by
 have k:=λm z=>a.keep m (w m z);have g:∀(m:Nat) (ds:O),h[m]?=some ds->h'[m]?=some ds:=λm ds z=>by rw[a.keep m (gL z).1];exact z
 rcases o with _|s
 .exact q
 .cases s with
  |val v=>obtain⟨d,e,q⟩:=q;exact⟨d,e,q.mono k a.sub⟩
  |own l=>obtain⟨m,ds,e,z,y,q⟩:=q;exact⟨m,ds,e,z,g m _ y,q.mono k a.sub⟩
  |bor l=>obtain⟨m,ds,e,z,y,q⟩:=q;exact⟨m,ds,e,z,g m _ y,q.mono k a.sub⟩
  |ro l=>obtain⟨m,ds,e,z,y,q⟩:=q;exact⟨m,ds,e,z,g m _ y,q.mono k a.sub⟩
theorem aY.al(f:aY M B h S fr aj)(a:Al h S h' S'):aY M B h' S' fr aj where
 wS:=λm q=>by
  rcases a.new m q with q|⟨j,b⟩
  .exact⟨Uv (f.wS m q).1 a.len,(f.wS m q).2⟩
  .exact⟨b,λz=>by have:=f.wM m z;lia,λz=>by have:=f.wB m z;lia⟩
 wM:=λm q=>Uv (f.wM m q) a.len
 wB:=λm q=>Uv (f.wB m q) a.len
 len:=f.len
 sl:=λi o p e g=>(f.sl i o p e g).al f.w a
 inj:=f.inj
theorem Out.refl(f:aY M B h S fr aj):Out M B c h S fr aj h S fr:=⟨f,.refl,λ_=>rfl⟩
theorem Out.trans(a:Out M B c1 h S fr aj h1 S1 ah)(b:Out M B c2 h1 S1 ah aj h2 S2 aq):Out M B (c1++c2) h S fr aj h2 S2 aq:=⟨b.f,(a.tr.trans b.tr).weak λm z=>Xs.app.mpr z,λi=>(b.lk i).trans (a.lk i)⟩
theorem Out.al(a:Out M B c h S fr aj h1 S1 ah)(b:Al h1 S1 h2 S2):Out M B c h S fr aj h2 S2 ah:=⟨a.f.al b,(a.tr.trans (b.tr (X:=λ_=>False))).weak (λm z=>by rcases z with z|z;exact z;exact z.elim),a.lk⟩
theorem Out.weak(a:Out M B c h S fr aj h1 S1 ah)(q:∀i∈c,i∈c1):Out M B c1 h S fr aj h1 S1 ah:=⟨a.f,a.tr.weak λm z=>Xs.mono q z,a.lk⟩
def fR(k:Bool)(h:Hh)(S:X9)(v:V)(d:D):Prop:=if k=true then bV h S v d else Rep h S v d
def fR.of(q:Rep h S v d):fR k h S v d:=by unfold fR;split;exact q.top;exact q
def fR.t(q:fR k h S v d):bV h S v d:=by unfold fR at q;split at q;exact q;exact q.top
def fR.n(q:fR false h S v d):Rep h S v d:=by simpa[fR]using q
def aY.slot(f:aY M B h S fr aj){i m:Nat}(e:aj[i]?=some (some (.ref m)))(z:M m):∃o,fr[i]?=some o/\iK o=true:=by
 have b:i<fr.length:=by rw[f.len];exact(gL e).1
 refine⟨fr[i],Zy b,?_⟩;have s:=f.sl i _ _ (Zy b) e
 revert s
 generalize fr[i]=o
 intro s;rcases o with _|g
 ·exists s
 .cases g with
  |own l=>rfl
  |bor l=>rfl
  |ro l=>obtain⟨j,ds,e,y,_⟩:=s;cases e;exact absurd z y
  |val v=>
   obtain⟨d,e,q⟩:=s
   exists e
   exfalso;cases v<;>simp only[Rep,reduceCtorEq]at q
   .obtain⟨_,e,_⟩:=q;cases e
   .obtain⟨n,ds,e,a,_⟩:=q;exists e;exact(f.wS _ a).2.1 z
   .obtain⟨n,ds,e,a,_⟩:=q;exists e;exact(f.wS _ a).2.1 z
   .obtain⟨n,e,a,_⟩:=q;exists e;exact(f.wS _ a).2.1 z
theorem fR.tr(q:fR k h S v d)(f:aY M B h S fr aj)(t:Tk (Xs M aj c) h S h' S')(Z:k=true->kf a c=true)(ha:∀i,a=.v i->aj[i]?.join=some d):fR k h' S' v d:=by
 unfold fR at q ⊢;split at q
 .rename_i e;rw[gV e];have Z:=Z e;have b:c=[]->bV h' S' v d:=λz=>q.tr f t λm y=>by subst z;exact Xs.nil y
  by_cases g:∃i,a=.v i
  .obtain⟨i0,rfl⟩:=g;simp only[kf,Z8,List.contains_eq_mem,acd]at Z;cases v
   case lst l=>
    obtain⟨n,ds,rfl,o,A⟩:=q;refine⟨n,ds,rfl,?_,A.tr f t⟩;rw[t.keep n (gL o).1 ?_]
    .exact o
    .rintro⟨mn,j,hj,ej⟩;have r:aj[i0]?=some (some (D.ref n)):=by
      have:=ha i0 rfl;cases z:aj[i0]? with
      |none=>rw[z]at this;exists this
      |some p=>rw[z]at this;simp at this;rw[this]
     obtain⟨C,F,G⟩:=f.slot r mn;obtain⟨H,I,J⟩:=f.slot ej mn;have:=f.inj i0 j C H n F I G J r ej;subst this;exact Z hj
   all_goals exact Rep.tr (show Rep h S _ d from q) f t
  .have:kf a c=c.isEmpty:=by
    cases a<;>first|rfl|exact absurd ⟨_,rfl⟩ g
   rw[this,List.isEmpty_iff]at Z;exact b Z
 .rename_i e;rw[Yl e];exact q.tr f t
def KR(e:mX k fr i=some v)(f:aY M B h S fr aj):∃d,aj[i]?.join=some d/\fR k h S v d:=by
  unfold mX at e;split at e
  . rename_i z;obtain⟨p,a,q⟩:=f.get z;obtain⟨d,rfl,q⟩:=q
    exists e
    exact⟨d,by rw[a];rfl,.of q⟩
  all_goals first
    | (rename_i z
       obtain⟨p,a,q⟩:=f.get z;obtain⟨m,ds,rfl,_,y,q⟩:=q;split at e
       . rename_i b;cases e;exact⟨.ref m,by rw[a];rfl,by unfold fR;rw[gV b];exact⟨m,ds,rfl,y,q⟩⟩
       · exists e)
    | exists e
def XO:Sl->List V->Prop
 |.bor l,l'=>l=l'
 |_,_=>False
def XQ:Sl->List V->Prop
 |.ro l,l'=>l=l'
 |_,_=>False
def jx(e:lent fr i=some s)(f:aY M B h S fr aj):∃m ds l o,fr[i]?=some o/\aj[i]?=some (some (.ref m))/\h[m]?=some (oO s ds)/\au h S l ds/\((XO s l/\M m/\iK o=true)\/(XQ s l/\¬ M m/\o=some s)):=by
 unfold lent at e;split at e
 .rename_i g z;obtain⟨p,b,q⟩:=f.get z;cases g with
  |val v=>simp[Sl.lend]at e
  |own l=>
   simp[Sl.lend]at e;subst e;obtain⟨m,ds,rfl,y,a,q⟩:=q;exact⟨m,ds,l,_,z,b,a,q,.inl ⟨rfl,y.1,rfl⟩⟩
  |bor l=>
   simp[Sl.lend]at e;subst e;obtain⟨m,ds,rfl,y,a,q⟩:=q;exact⟨m,ds,l,_,z,b,a,q,.inl ⟨rfl,y.1,rfl⟩⟩
  |ro l=>
   simp[Sl.lend]at e;subst e;obtain⟨m,ds,rfl,y,a,q⟩:=q;exact⟨m,ds,l,_,z,b,a,q,.inr ⟨rfl,y,rfl⟩⟩
 ·exists e
def yd(h:Hh)(S:X9)(aj:Ev.Fr):List (Nat ⊕ V)->List D->Prop
 |[],ds=>ds=[]
 |.inl i :: r,ds=>∃d es,ds=d :: es/\aj[i]?=some (some d)/\yd h S aj r es
 |.inr v :: r,ds=>∃d es,ds=d :: es/\Rep h S v d/\yd h S aj r es
def lG(h:Hh)(S:X9):List Sl->List D->List (T2)->Prop
 |[],_,os=>os=[]
 |.val _ :: sl,ds,os=>∃d es,ds=d :: es/\lG h S sl es os
 |.own _ :: _,_,_=>False
 |s :: sl,ds,os=>∃d es l r m cs,ds=d :: es/\os=l :: r/\d=.ref m/\h[m]?=some (oO s cs)/\au h S l cs/\lG h S sl es r
def pH(P:aE)(P':Ev.aE):Prop:=∀f sl v os,P f sl=some (v,os)->∀(h:Hh) (S B:X9) (ds:T1),aY B B h S (sl.map some) (ds.map some)->
 ∃d h' S',P' f ds h=.ok d h'/\Rep h' S' v d/\Tk B h S h' S'/\lG h' S' sl ds os
theorem args_get(f:aY M B h S fr aj):∀{as:List (Nat ⊕ V)}{sl:List Sl}{ds:T1},args fr as=some sl->yd h S aj as ds->sl.length=ds.length/\∀(a:Nat) s d,sl[a]?=some s->ds[a]?=some d->
  (∃i,as[a]?=some (.inl i)/\lent fr i=some s/\aj[i]?=some (some d))\/(∃v,s=.val v/\Rep h S v d)
 |[],sl,ds,e,q=>by
  simp[args]at e;subst e q;simp
 |.inl i :: r,sl,ds,e,q=>by
  simp only[args,Zz,Uw]at e;obtain⟨s,A,l,j,rfl⟩:=e;obtain⟨d,C,rfl,o,q⟩:=q;obtain⟨h1,h2⟩:=args_get f j q;refine⟨by simp[h1],λa p y b g=>?_⟩;cases a with
  |zero=>simp at b g;subst b g;exact .inl ⟨i,by simp,A,o⟩
  |succ a=>exact(h2 a p y (by simpa using b) (by simpa using g)).imp (λ⟨i,k,z⟩=>⟨i,by simpa using k,z⟩) id
 |.inr v :: r,sl,ds,e,q=>by
  simp only[args,Uw]at e;obtain⟨l,j,rfl⟩:=e;obtain⟨d,C,rfl,o,q⟩:=q;obtain⟨h1,h2⟩:=args_get f j q;refine⟨by simp[h1],λa p y b g=>?_⟩;cases a with
  |zero=>simp at b g;subst b g;exact .inr ⟨v,rfl,o⟩
  |succ a=>exact(h2 a p y (by simpa using b) (by simpa using g)).imp (λ⟨i,k,z⟩=>⟨i,by simpa using k,z⟩) id
theorem iL:∀{as:List (Nat ⊕ V)}{a i:Nat},as[a]?=some (.inl i)->i∈bO as
 |[],_,_,e=>by simp at e
 |.inl j :: r,0,i,e=>by simp at e;subst e;simp[bO]
 |.inr j :: r,0,i,e=>by simp at e
 |.inl j :: r,a+1,i,e=>by have:=iL (by simpa using e);simp[bO,this]
 |.inr j :: r,a+1,i,e=>by have:=iL (by simpa using e);simp[bO,this]
theorem oB:∀{as:List (Nat ⊕ V)}{a b i:Nat},(bO as).Nodup->as[a]?=some (.inl i)->as[b]?=some (.inl i)->a=b
 |[],_,_,_,_,e,_=>by simp at e
 |x :: r,0,0,_,_,_,_=>rfl
 |.inr j :: r,0,b+1,i,n,e,_=>by simp at e
 |.inl j :: r,0,b+1,i,n,e,e2=>by
  simp at e;subst e;simp only[bO,abA]at n;exact absurd (iL (by simpa using e2)) n.1
 |.inr j :: r,a+1,0,i,n,_,e=>by simp at e
 |.inl j :: r,a+1,0,i,n,e2,e=>by
  simp at e;subst e;simp only[bO,abA]at n;exact absurd (iL (by simpa using e2)) n.1
 |.inl j :: r,a+1,b+1,i,n,e1,e2=>by
  simp only[bO,abA]at n;have:=oB n.2 (by simpa using e1) (by simpa using e2);lia
 |.inr j :: r,a+1,b+1,i,n,e1,e2=>by
  have:=oB (as:=r) n (by simpa using e1) (by simpa using e2);lia
def GA:iK (some (s.with l))=iK (some s):=by cases s<;>rfl
def An:Am (some (s.with l))=Am (some s):=by cases s<;>rfl
theorem ye:∀{is:Ξ}{I:List (T2)}{fr ah:Fr},back is I fr=some ah->is.Nodup->ah.length=fr.length/\(∀i,i∉is->ah[i]?=fr[i]?)/\∀i∈is,∃(k:Nat) (s:Sl) (l:T2),is[k]?=some i/\I[k]?=some l/\fr[i]?=some (some s)/\ah[i]?=some (some (s.with l))
 |[],[],fr,ah,e,_=>by simp[back]at e;subst e;simp
 |[],_ :: _,_,_,e,_=>by simp[back]at e
 |_ :: _,[],_,_,e,_=>by simp[back]at e
 |i :: is,l :: I,fr,ah,e,n=>by
  simp only[back]at e;simp only[abA]at n;split at e
  .rename_i s z;obtain⟨h1,h2,o⟩:=ye e n.2;refine⟨by simpa using h1,λj f=>?_,λj f=>?_⟩
   .simp at f;rw[h2 j f.2,AN (λq=>f.1 q.symm)]
   .rcases qE f with rfl|f
    .exact⟨0,s,l,by simp,by simp,z,by rw[h2 j n.1,Jb (gL z).1]⟩
    .obtain⟨k,p,r,a,b,c,d⟩:=o j f;have g:i≠j:=λq=>n.1 (q▸f);rw[AN g]at c;exact⟨k+1,p,r,by simpa using a,by simpa using b,c,d⟩
  .cases e
theorem oE(f:aY M B h S fr aj):∀{as:List (Nat ⊕ V)}{sl:List Sl}{ds:T1}{os:List (T2)},args fr as=some sl->yd h S aj as ds->lG h' S' sl ds os->
    ∀(k i:Nat) l,(bO as)[k]?=some i->os[k]?=some l->∃m cs s,lent fr i=some s/\aj[i]?=some (some (.ref m))/\h'[m]?=some (oO s cs)/\au h' S' l cs
  |[],sl,ds,os,e,q,o=>by simp[bO]
  |.inl i :: r,sl,ds,os,e,q,o=>by
    simp only[args,Zz,Uw]at e;obtain⟨s,N,l,z,rfl⟩:=e;obtain⟨d,P,rfl,Q,q⟩:=q;obtain⟨m,cs,Z,o0,_,A,z3,z4,y⟩:=jx N f;have C:∃a b cs,os=a :: b/\h'[m]?=some (oO s cs)/\au h' S' a cs/\lG h' S' l P b:=by
      rw[Q]at A;cases A;cases s<;>first
        | (obtain⟨W,F,a,b,m1,O0,G,H,Y,I,J,K⟩:=o
           cases G;cases Y;exact⟨a,b,O0,H,I,J,K⟩)
        | (rcases y with y|y<;>exact y.1.elim)
    obtain⟨a,b,O0,rfl,I,J,K⟩:=C;intro k j L g p;cases k with
    |zero=>simp[bO]at g p;subst g p;exact⟨m,O0,s,N,A,I,J⟩
    |succ k=>exact oE f z q K k j L (by simpa[bO]using g) (by simpa using p)
  |.inr v :: r,sl,ds,os,e,q,o=>by
    simp only[args,Uw]at e;obtain⟨l,z,rfl⟩:=e;obtain⟨d,P,rfl,Q,q⟩:=q;obtain⟨W,F,G,H⟩:=o;cases G;intro k j L g p;exact oE f z q H k j L (by simpa[bO]using g) p
theorem mY:∀{as:List (Nat ⊕ V)}{sl:List Sl}{i:Nat},args fr as=some sl->i∈bO as->∃s,lent fr i=some s
 |[],_,_,_,q=>by simp[bO]at q
 |.inl j :: r,_,i,z,q=>by
  simp only[args,Zz,Uw]at z;obtain⟨s,b,l,a,rfl⟩:=z;simp[bO]at q;rcases q with rfl|q
  .exact⟨s,b⟩
  .exact mY a q
 |.inr u :: r,_,i,z,q=>by
  simp only[args,Uw]at z;obtain⟨l,a,rfl⟩:=z;exact mY a (by simpa[bO]using q)
def LB(fr:Fr)(aj:Ev.Fr)(as:List (Nat ⊕ V)):X9:=λm=>∃(i:Nat) (o:Tx),i∈bO as/\fr[i]?=some o/\iK o=true/\aj[i]?=some (some (.ref m))
theorem LB.m(f:aY M B h S fr aj):∀m,LB fr aj as m->M m:=λm ⟨i,o,_,a,b,c⟩=>by
  have s:=f.sl i o _ a c;rcases o with _|j
  ·exists b
  .cases j with
   |val v=>exists b
   |ro l=>exists b
   |own l=>obtain⟨p,g,e,y,_⟩:=s;cases e;exact y.1
   |bor l=>obtain⟨p,g,e,y,_⟩:=s;cases e;exact y.1
def Ao(f:aY M B h S fr aj)(nd:(bO as).Nodup)(z:args fr as=some sl)(q:yd h S aj as ds):aY (LB fr aj as) (LB fr aj as) h S (sl.map some) (ds.map some):=by
 have A:=LB.m f (as:=as);obtain⟨hl,F⟩:=args_get f z q;refine⟨λm y=>⟨(f.wS m y).1,λz=>(f.wS m y).2.1 (A m z),λz=>(f.wS m y).2.1 (A m z)⟩,λm y=>f.wM m (A m y),λm y=>f.wM m (A m y),by simp[hl],λa o p g l=>?_,λa b o o' m g l H I J K=>?_⟩
 .simp at g l;obtain⟨s,g,rfl⟩:=g;obtain⟨d,l,rfl⟩:=l;rcases F a s d g l with ⟨i,k1,k2,k3⟩|⟨u,rfl,k⟩
  .obtain⟨m,L,l0,N,C,G,P,Q,e⟩:=jx k2 f;rw[k3]at G;cases G;rcases e with ⟨e,W,r⟩|⟨e,W,r⟩
   .cases s<;>first
     | (subst e;exact⟨m,L,rfl,⟨⟨i,N,iL k1,C,r,k3⟩,⟨i,N,iL k1,C,r,k3⟩⟩,P,Q⟩)
     |exact e.elim
   .cases s<;>first
     | (subst e;exact⟨m,L,rfl,λz=>W (A m z),P,Q⟩)
     |exact e.elim
  .exact⟨d,rfl,k⟩
 .simp at g l J K;obtain⟨s,g,rfl⟩:=g;obtain⟨s',l,rfl⟩:=l;rcases F a s _ g J with ⟨i,k1,k2,k3⟩|⟨u,rfl,k⟩
  .rcases F b s' _ l K with ⟨j,k4,k5,k6⟩|⟨u,rfl,k⟩
   .obtain⟨m1,_,l1,Y,C,G,_,_,e⟩:=jx k2 f;obtain⟨m2,_,l2,Z,x1,x2,_,_,x5⟩:=jx k5 f;have i1:iK Y=true:=by rcases e with ⟨_,_,r⟩|⟨e,_,rfl⟩;exact r;exact H
    have i2:iK Z=true:=by rcases x5 with ⟨_,_,r⟩|⟨x5,_,rfl⟩;exact r;exact I
    have:=f.inj i j Y Z m C x1 i1 i2 k3 k6;subst this;exact oB nd k1 k4
   ·exists I
  ·exists H
def qK(HP:pH P P')(e:cz P g as fr=.ok v ah)(f:aY M B h S fr aj)(q:yd h S aj as ds):
  ∃d h' S',P' g ds h=.ok d h'/\Rep h' S' v d/\Out M B (bO as) h S fr aj h' S' ah:=by
 unfold cz at e;split at e
 case isFalse=>exists e
 rename_i nd;cases z:args fr as with
 |none=>rw[z]at e;exists e
 |some sl=>
 rw[z]at e;simp only at e;cases z2:P g sl with
 |none=>rw[z2]at e;exists e
 |some vo=>
 obtain⟨v',os⟩:=vo;rw[z2]at e;simp only at e;cases z3:back (bO as) os fr with
 |none=>rw[z3]at e;exists e
 |some aq=>
 rw[z3]at e;simp at e;obtain⟨rfl,rfl⟩:=e;obtain⟨hl,hg⟩:=args_get f z q
 let B0:=LB fr aj as
 have W:∀m,B0 m->M m:=LB.m f;have F0:=Ao f nd z q;obtain⟨d,h',S',c1,c2,r,c4⟩:=HP g sl v' os z2 h S B0 ds F0;obtain⟨b1,Y,Z⟩:=ye z3 nd;have hL:=oE f z q c4;have Q:∀m,S m->h'[m]?=h[m]?:=λm y=>r.keep m (f.wS m y).1 (λz=>(f.wS m y).2.1 (W m z));refine⟨d,h',S',c1,c2,⟨?_,?_,?_⟩⟩
 .refine⟨λm y=>?_,λm y=>Uv (f.wM m y) r.len,λm y=>Uv (f.wB m y) r.len,by rw[b1,f.len],λi o p C G=>?_,λi j o o' m C G y3 y4 y5 y6=>?_⟩
  .rcases r.new m y with y|⟨C,G⟩
   .exact⟨Uv (f.wS m y).1 r.len,(f.wS m y).2⟩
   .exact⟨G,λz=>by have:=f.wM m z;lia,λz=>by have:=f.wB m z;lia⟩
  .by_cases H:i∈bO as
   .obtain⟨k,s,l,A,F,J,w4⟩:=Z i H;rw[w4]at C;exists C;obtain⟨m,cs,s',x0,K,L,I⟩:=hL k i l A F;rw[K]at G;exists G;simp only[lent,J]at x0;have a:=f.sl i _ _ J K;cases s with
    |val u=>
     exfalso;have:∃s,lent fr i=some s:=mY z H;obtain⟨s,hs⟩:=this;simp[lent,J,Sl.lend]at hs
    |own u=>exists x0;obtain⟨m',b,e,y,_⟩:=a;cases e;exact⟨m,cs,rfl,y,L,I⟩
    |bor u=>exists x0;obtain⟨m',b,e,y,_⟩:=a;cases e;exact⟨m,cs,rfl,y,L,I⟩
    |ro u=>
     obtain⟨m',b,e,y,C,G⟩:=a;cases e;refine⟨m,b,rfl,y,?_,G.mono Q r.sub⟩;rw[r.keep m (gL C).1 (λz=>y (W m z))];exact C
   .rw[Y i H]at C;have a:=f.sl i o p C G;rcases o with _|s
    .exact a
    .cases s with
     |val u=>obtain⟨d,e,q⟩:=a;exact⟨d,e,q.mono Q r.sub⟩
     |own u=>
      obtain⟨m,b,rfl,A,F,J⟩:=a;refine⟨m,b,rfl,A,?_,J.mono Q r.sub⟩;rw[r.keep m (f.wM m A.1) (λ⟨j,o2,K,L,I,N⟩=>H (f.inj i j _ o2 m C L rfl I G N▸K))];exact F
     |bor u=>
      obtain⟨m,b,rfl,A,F,J⟩:=a;refine⟨m,b,rfl,A,?_,J.mono Q r.sub⟩;rw[r.keep m (f.wM m A.1) (λ⟨j,o2,K,L,I,N⟩=>H (f.inj i j _ o2 m C L rfl I G N▸K))];exact F
     |ro u=>
      obtain⟨m,b,rfl,A,F,J⟩:=a;refine⟨m,b,rfl,A,?_,J.mono Q r.sub⟩;rw[r.keep m (gL F).1 (λz=>A (W m z))];exact F
  .have kind:∀(i:Nat) o,aq[i]?=some o->iK o=true->∃o0,fr[i]?=some o0/\iK o0=true:=λi o A F=>by
    by_cases H:i∈bO as
    .obtain⟨k,s,l,K,L,I,N⟩:=Z i H;rw[N]at A;exists A;exact⟨_,I,by rw[GA]at F;exact F⟩
    .rw[Y i H]at A;exact⟨o,A,F⟩
   obtain⟨oi,k1,k2⟩:=kind i o C y3;obtain⟨oj,k3,k4⟩:=kind j o' G y4;exact f.inj i j oi oj m k1 k3 k2 k4 y5 y6
 .exact r.weak λm z=>⟨W m z,by obtain⟨i,o,a1,a2,a3,a4⟩:=z;exact⟨i,a1,a4⟩⟩
 .intro i;unfold locked;by_cases H:i∈bO as
  .obtain⟨k,s,l,K,L,I,N⟩:=Z i H;rw[I,N];exact An
  .rw[Y i H]
end
end Pv
namespace Pv
open Ev (D O Hh)
def qL(k:Θ)(p:Int)(s:Ξ):(Ev.cF k p s).length<=k.length+1:=by
 unfold Ev.cF;split<;>simp
def BR{i j:Int}{h:Hh}:Ev.bX .add (.int i) (.int j) h=.ok (.int (i+j)) h:=rfl
def GB{a b:Ξ}{h:Hh}:Ev.cop .eq (.str a) (.str b) h=some (a==b):=rfl
def GC{x y:D}{h:Hh}:Ev.eK (.tup [x,y]) (.int 0) h=some x:=rfl
def GD{x y:D}{h:Hh}:Ev.eK (.tup [x,y]) (.int 1) h=some y:=rfl
def GF{b:Bool}{h:Hh}:Ev.truthy h (.bl b)=some b:=rfl
theorem Iv{P:Ev.aE}{w:Nat}{d0 d3:D}{n:Nat}:∀(s:Ξ) (k:Θ) (p:Int) (o:Option D) (h:Hh),h[n]?=some (.dct k)->k.length+s.length<=100000->
  ∃o',Ev.forL (λd aq h2=>match Ev.bD (.one 4) d aq with|some bB=>Ev.exs P w DP bB h2|none=>.bad) [] (s.map λc=>.str [c]) [some d0,some (.ref n),some (.int p),some d3,o] h=.ok (.nx,[some d0,some (.ref n),some (.int (p+s.length)),some d3,o']) (h.set n (.dct (fQ k p s)))
 |[],k,p,o,h,hn,_=>⟨o,by
  simp only[aa7,Ev.forL,fQ];have:h.set n (.dct k)=h:=by
   obtain⟨a,e⟩:=gL hn;rw[<-e];exact abt a
  rw[this];simp[Ev.stays]⟩
 |c :: s,k,p,o,h,hn,hk=>by
  have a:=(gL hn).1;have j:=qL k p [c];simp only[ZH]at hk;obtain⟨o',b⟩:=Iv (P:=P) (w:=w) (d0:=d0) (d3:=d3) (n:=n) s (Ev.cF k p [c]) (p+1) (some (.str [c])) (h.set n (.dct (Ev.cF k p [c]))) (by rw[Jb a]) (by lia);refine⟨o',?_⟩;have f:k.length<Ev.big:=aba (show k.length<=100000 by lia) (by decide);have g:Ev.exs P w DP [some d0,some (.ref n),some (.int p),some d3,some (.str [c])] h=.ok (.nx,[some d0,some (.ref n),some (.int (p+1)),some d3,some (.str [c])]) (h.set n (.dct (Ev.cF k p [c]))):=by
   simp[DP,Ev.exs,Ev.g7,Ev.ev,Ev.R.bind,Ev.R.of,Ev.rB,hn,f,BR]
  simp only[WL,Ev.forL,Ev.bD,List.set];rw[g];simp only[Ev.ao];simp only[Ev.bD]at b;rw[b,List.set_set];have i:p+1+(s.length:Int)=p+((s.length+1:Nat):Int):=by lia
  simp[Ev.stays,fQ,i]
def O1(e:aW (v :: l) p k=some k'):(∃s,v=.tup [.str [100,114,111,112],.str s]/\k.length+s.length<=100000/\aW l (p+s.length) (fQ k p s)=some k')\/
  (∃i,v=.tup [.str [107,101,101,112],.int i]/\aW l (p+i) k=some k')\/∃w s,v=.tup [.str w,.str s]/\w≠[100,114,111,112]/\w≠[107,101,101,112]/\aW l p k=some k':=by
 match v,e with
 |.tup [.str w,.str s],e=>
  rw[aW]at e;by_cases b:w=[100,114,111,112]
  .rw[gV b]at e;by_cases a:k.length+s.length<=100000
   .rw[gV a]at e;exact .inl ⟨s,by rw[b],a,e⟩
   .rw[Yl a]at e;exists e
  .rw[Yl b]at e;by_cases a:w=[107,101,101,112]
   .rw[gV a]at e;exists e
   .rw[Yl a]at e;exact .inr (.inr ⟨w,s,rfl,b,a,e⟩)
 |.tup [.str w,.int i],e=>
  rw[aW]at e;by_cases a:w=[107,101,101,112]
  .rw[gV a]at e;exact .inr (.inl ⟨i,by rw[a],e⟩)
  .rw[Yl a]at e;exists e
 |.tup [],e=>simp[aW]at e
 |.tup [_],e=>simp[aW]at e
 |.tup (_ :: _ :: _ :: _),e=>simp[aW]at e
 |.aU,e=>simp[aW]at e
 |.bl _,e=>simp[aW]at e
 |.int _,e=>simp[aW]at e
 |.str _,e=>simp[aW]at e
 |.lst _,e=>simp[aW]at e
 |.bQ _,e=>simp[aW]at e
 |.dct _,e=>simp[aW]at e
 |.tup [.aU,_],e=>simp[aW]at e
 |.tup [.bl _,_],e=>simp[aW]at e
 |.tup [.int _,_],e=>simp[aW]at e
 |.tup [.tup _,_],e=>simp[aW]at e
 |.tup [.lst _,_],e=>simp[aW]at e
 |.tup [.bQ _,_],e=>simp[aW]at e
 |.tup [.dct _,_],e=>simp[aW]at e
 |.tup [.str _,.aU],e=>simp[aW]at e
 |.tup [.str _,.bl _],e=>simp[aW]at e
 |.tup [.str _,.tup _],e=>simp[aW]at e
 |.tup [.str _,.lst _],e=>simp[aW]at e
 |.tup [.str _,.bQ _],e=>simp[aW]at e
 |.tup [.str _,.dct _],e=>simp[aW]at e
theorem Iw{P:Ev.aE}{w:Nat}{d0:D}{n:Nat}{h0:Hh}{S:X9}:∀(l:T2) (ds:T1) (k k':Θ) (p:Int) (o3 Z:Option D) (h:Hh),au h0 S l ds->h[n]?=some (.dct k)->aW l p k=some k'->
  ∃p' DR DS,Ev.forL (λd aq h2=>match Ev.bD (.one 3) d aq with|some bB=>Ev.exs P w vG bB h2|none=>.bad) [] ds [some d0,some (.ref n),some (.int p),o3,Z] h=.ok (.nx,[some d0,some (.ref n),some (.int p'),DR,DS]) (h.set n (.dct k'))
 |[],ds,k,k',p,o3,Z,h,q,hn,e=>by
  simp only[au]at q;subst q;simp only[aW]at e;cases e;refine⟨p,o3,Z,?_⟩;have:h.set n (.dct k)=h:=by
   obtain⟨c,e⟩:=gL hn;rw[<-e];exact abt c
  rw[this];simp[Ev.forL,Ev.stays]
 |v :: l,ds,k,k',p,o3,Z,h,q,hn,e=>by
  have c:=(gL hn).1;simp only[au]at q;obtain⟨d,r,rfl,b,C⟩:=q;have o:∀(k1:Θ) (j:Int) (f:Option D),Ev.exs P w vG [some d0,some (.ref n),some (.int p),some d,Z] h=.ok (.nx,[some d0,some (.ref n),some (.int j),some d,f]) (h.set n (.dct k1))->aW l j k1=some k'->∃p' DR DS,Ev.forL (λd aq h2=>match Ev.bD (.one 3) d aq with|some bB=>Ev.exs P w vG bB h2|none=>.bad) [] (d :: r) [some d0,some (.ref n),some (.int p),o3,Z] h=.ok (.nx,[some d0,some (.ref n),some (.int p'),DR,DS]) (h.set n (.dct k')):=λk1 j f F a=>by
   obtain⟨p',DR,DS,y⟩:=Iw (P:=P) (w:=w) (d0:=d0) (n:=n) l r k1 k' j (some d) f (h.set n (.dct k1)) C (by rw[Jb c]) a;refine⟨p',DR,DS,?_⟩;simp only[Ev.forL,Ev.bD,List.set];rw[F];simp only[Ev.ao];simp only[Ev.bD]at y;rw[y,List.set_set];simp[Ev.stays]
  have z:h.set n (.dct k)=h:=by
   obtain⟨c,e⟩:=gL hn;rw[<-e];exact abt c
  rcases O1 e with ⟨s,rfl,G,a⟩|⟨i,rfl,a⟩|⟨I,s,rfl,H,h2,a⟩
  .simp only[Rep,au]at b;obtain⟨_,rfl,A,_,rfl,rfl,B,_,rfl,rfl,rfl⟩:=b;obtain⟨f,g⟩:=Iv (P:=P) (w:=w) (d0:=d0) (d3:=.tup [.str [100,114,111,112],.str s]) (n:=n) s k p Z h hn G;refine o _ _ f ?_ a;simp only[Ev.bD]at g;simp[vG,Ev.exs,Ev.g7,Ev.bu,Ev.iH,Ev.ev,Ev.R.bind,Ev.R.of,GC,GD,GB,GF,Ev.cL,Ev.fM,Ev.bD,g]
  .simp only[Rep,au]at b;obtain⟨_,rfl,A,_,rfl,rfl,B,_,rfl,rfl,rfl⟩:=b;refine o k (p+i) Z ?_ a;rw[z];simp[vG,Ev.exs,Ev.g7,Ev.bu,Ev.iH,Ev.ev,Ev.R.bind,Ev.R.of,GC,GD,GB,GF,BR]
  .simp only[Rep,au]at b;obtain⟨_,rfl,A,_,rfl,rfl,B,_,rfl,rfl,rfl⟩:=b;refine o k p Z ?_ a;rw[z];simp[vG,Ev.exs,Ev.g7,Ev.bu,Ev.iH,Ev.ev,Ev.R.bind,Ev.R.of,GC,GD,GB,GF,BR,H,h2]
def O2(z:F[f]?=some dY)(q:Rep h S (.tup l) d)(e:aW l 0 []=some k):Ev.run F w (n+1) f [d] h=.ok (.ref h.length) (h++[.dct k]):=by
 obtain⟨dl,rfl,q⟩:=q;obtain⟨a,b,c,g⟩:=Iw (P:=Ev.run F w n) (w:=w) (d0:=.tup dl) (n:=h.length) l dl [] k 0 none none (h++[.dct []]) q (by simp) e;simp only[Ev.bD]at g;simp only[Ev.fy,z];show Ev.endOf (Ev.exs (Ev.run F w n) w dY.body [some (.tup dl),none,none,none,none] h)=_;simp[dY,Ev.exs,Ev.g7,Ev.ev,Ev.R.bind,Ev.R.of,Ev.cL,Ev.fM,Ev.bD,g,Ev.endOf]
def O3(e:oz fn sl=some (v,os)):fn=dY/\∃l k,sl=[.val (.tup l)]/\aW l 0 []=some k/\v=.dct k/\os=[]:=by
 unfold oz at e;split at e
 .rename_i h;refine⟨h,?_⟩;split at e
  .rename_i l;obtain⟨k,a,b⟩:=kA e
   exists b
   exact⟨l,k,rfl,a,rfl,rfl⟩
  ·exists e
 ·exists e
open Ev (bA br TY BI ME T E Es Eo It S Ss Fn big deep b2i rep bZ dU bM aS cut cE dI slots bw)
section
variable{M B:X9}{h h' h1 h2:Hh}{S S' S1 S2:X9}{fr ah aq:Fr}{aj:Ev.Fr}{c:Ξ}{v:V}{d:D}
def lH:(∀d,aF (.c d)=[])/\(∀i,aF (.v i)=[])/\(∀es,aF (.tup es)=dD es)/\(∀es,aF (.lst es)=dD es)/\(∀o a b,aF (.bin o a b)=aF a++aF b)/\(∀o a b,aF (.cmp o a b)=aF a++aF b)
 /\(∀a,aF (.nt a)=aF a)/\(∀a,aF (.neg a)=aF a)/\(∀a b,aF (.an a b)=aF a++aF b)/\(∀a b,aF (.orr a b)=aF a++aF b)/\(∀t a b,aF (.iT t a b)=aF t++(aF a++aF b))
 /\(∀a b,aF (.ix a b)=aF a++aF b)/\(∀a lo hi,aF (.sl a lo hi)=aF a++(jb lo++jb hi))
 /\(∀f es,aF (.cl f es)=dD es++jO es)/\(∀f es,aF (.bi f es)=dD es)/\(∀m o es,aF (.me m o es)=aF o++(dD es++Iu m o))
 /\(∀a k,aF (.jP a k)=aF a++aF k)/\(∀a k x,aF (.jQ a k x)=aF a++(aF k++aF x))
 /\(∀a,aF (.iU a)=aF a):=by and_intros<;>intros<;>rfl
def l8(q:n≠m):(h.set n o)[m]?=h[m]?:=AN q
def aY.mM(f:aY M B h S fr aj){i n:Nat}(e:fr[i]?=some o)(z:iK o=true)(I:aj[i]?=some (some (.ref n))):M n:=by
 have s:=f.sl i o _ e I;rcases o with _|b
 ·exists z
 .cases b with
  |val v=>exists z
  |ro l=>exists z
  |own l=>obtain⟨g,a,e,y,_⟩:=s;cases e;exact y.1
  |bor l=>obtain⟨g,a,e,y,_⟩:=s;cases e;exact y.1
def aY.write(f:aY M B h S fr aj)(e:fr[i]?=some (some s))(hM:iK (some s)=true)(e':aj[i]?=some (some (.ref n)))(q:au h S l' ds'):
  aY M B (h.set n (oO s ds')) S (fr.set i (some (s.with l'))) aj:=by
 have H:=f.mM e hM e';have kp:∀m,S m->(h.set n (oO s ds'))[m]?=h[m]?:=λm z=>l8 λy=>(f.wS m z).2.1 (y▸H);have J:=(gL e).1;refine⟨λm y=>by simpa using f.wS m y,λm y=>by simpa using f.wM m y,λm y=>by simpa using f.wB m y,by simp[f.len],λj o p g r=>?_,λj k o K m g r L N P Q=>?_⟩
 .by_cases A:i=j
  .subst A;rw[Jb J]at g
   exists g
   rw[e']at r;exists r;have a:=f.sl i _ _ e e';have I:(h.set n (oO s ds'))[n]?=some (oO s ds'):=Jb (f.wM n H);cases s with
   |val v=>exists hM
   |ro l=>exists hM
   |own l=>obtain⟨W,_,e,y,_⟩:=a;cases e;exact⟨n,ds',rfl,y,I,q.mono kp λ_ z=>z⟩
   |bor l=>obtain⟨W,_,e,y,_⟩:=a;cases e;exact⟨n,ds',rfl,y,I,q.mono kp λ_ z=>z⟩
  .rw[AN A]at g;have a:=f.sl j o p g r;rcases o with _|X
   .exact a
   .cases X with
    |val u=>obtain⟨d,e,q⟩:=a;exact⟨d,e,q.mono kp λ_ z=>z⟩
    |own u=>
     obtain⟨m,F,rfl,b,C,G⟩:=a;refine⟨m,F,rfl,b,?_,G.mono kp λ_ z=>z⟩;rw[l8 λz=>A (f.inj i j _ _ n e g hM rfl e' (by rw[z];exact r))];exact C
    |bor u=>
     obtain⟨m,F,rfl,b,C,G⟩:=a;refine⟨m,F,rfl,b,?_,G.mono kp λ_ z=>z⟩;rw[l8 λz=>A (f.inj i j _ _ n e g hM rfl e' (by rw[z];exact r))];exact C
    |ro u=>
     obtain⟨m,F,rfl,b,C,G⟩:=a;refine⟨m,F,rfl,b,?_,G.mono kp λ_ z=>z⟩;rw[l8 λ(z:n=m)=>b (z▸H)];exact C
 .have kind:∀(j:Nat) o,(fr.set i (some (s.with l')))[j]?=some o->iK o=true->∃o0,fr[j]?=some o0/\iK o0=true:=λj o b C=>by
   by_cases A:i=j
   .subst A;exact⟨_,e,hM⟩
   .rw[AN A]at b;exact⟨o,b,C⟩
  obtain⟨Y,k1,k2⟩:=kind j o g L;obtain⟨Z,k3,k4⟩:=kind k K r N;exact f.inj j k Y Z m k1 k3 k2 k4 P Q
def O4{xs:T2}(z:kW m l xs=some (v,l'))(e:h[n]?=some (.lst ds))(q:au h S l ds)(p:iA h S xs es)(I:DO m=false->au h S xs es)(Z:∀k,S k->k≠n):
  ∃r ds',Ev.fK m (.ref n) es h=.ok r (h.set n (.lst ds'))/\Rep h S v r/\au h S l' ds':=by
 unfold kW at z;split at z
 .have I:=I rfl;split at z
  .rename_i k;cases z;obtain⟨d,_,rfl,a,rfl⟩:=I;refine⟨_,_,?_,rfl,q.append (.cons a .nil)⟩
   delta Ev.fK;simp only[e]
   rw[gV (by rw[<-q.length];exact k)]
  ·exists z
 .split at z
  .rename_i k;cases z;obtain⟨d,rfl,a⟩:=p.one;obtain⟨n2,f,rfl,b,a⟩:=a;refine⟨_,_,?_,rfl,q.append a⟩
   delta Ev.fK;simp only[e,b]
   rw[gV (by rw[<-q.length,<-a.length];exact k)]
  ·exists z
 .subst p;split at z
  .rename_i x y;cases z;obtain⟨d,k1,k2⟩:=q.get y;refine⟨d,_,?_,k2,q.dropLast⟩
   delta Ev.fK;dsimp only;simp only[e]
   rw[<-q.length,k1]
  ·exists z
 ·exists z
theorem aY.set(f:aY M B h S fr aj)(e:put fr i (.val v)=some ah)(q:Rep h S v d):aY M B h S ah (aj.set i (some d))/\(∀j,locked ah j=locked fr j)/\∀j,locked fr j=true->(aj.set i (some d))[j]?=aj[j]?:=by
 have K:ah=fr.set i (some (.val v))/\locked fr i=false:=by
  unfold put at e;unfold locked;split at e
  ·exists e
  ·exists e
  .rename_i k1 k2
   exists e
   refine⟨rfl,?_⟩;cases z:fr[i]? with
   |none=>rfl
   |some o=>
    rcases o with _|s
    .rfl
    .cases s with
     |bor l=>exact absurd z (k1 l)
     |ro l=>exact absurd z (k2 l)
     |_=>rfl
 obtain⟨rfl,A⟩:=K;have L:∀j,locked (fr.set i (some (.val v))) j=locked fr j:=λj=>by
  by_cases b:i=j
  .subst b;rw[A];unfold locked;by_cases r:i<fr.length
   .rw[Jb r];rfl
   .rw[Z7 (by simpa using r)]
  .unfold locked;rw[AN b]
 refine⟨⟨f.wS,f.wM,f.wB,by simp[f.len],λj o p a g=>?_,λj k o C m a g F G H I=>?_⟩,L,λj b=>?_⟩
 .by_cases b:i=j
  .subst b;have r:i<fr.length:=by have:=(gL a).1;simpa using this
   rw[Jb r]at a;rw[Jb (by rw[<-f.len];exact r)]at g
   exists a;exists g
   exact⟨d,rfl,q⟩
  .rw[AN b]at a g;exact f.sl j o p a g
 .have J:∀(j:Nat) o,(fr.set i (some (.val v)))[j]?=some o->iK o=true->i≠j:=λj o y N P=>by
   subst P;have r:i<fr.length:=by have:=(gL y).1;simpa using this
   rw[Jb r]at y
   exists y;exists N
  have n1:=J j o a F;have n2:=J k C g G;rw[AN n1]at a H;rw[AN n2]at g I;exact f.inj j k o C m a g F G H I
 .have:i≠j:=λz=>by subst z;rw[A]at b;exists b
  rw[AN this]
theorem aY.cR:∀{is:Ξ}{vs:T2}{ds:T1}{fr ah:Fr}{aj:Ev.Fr},aY M B h S fr aj->cR is vs fr=some ah->au h S vs ds->∃bP,Ev.cR is ds aj=some bP/\aY M B h S ah bP/\(∀j,locked ah j=locked fr j)/\∀j,locked fr j=true->bP[j]?=aj[j]?
 |[],[],ds,fr,ah,aj,f,e,q=>by
  simp[Pv.cR]at e;subst e q;exact⟨aj,rfl,f,λ_=>rfl,λ_ _=>rfl⟩
 |[],_ :: _,_,_,_,_,_,e,_=>by simp[Pv.cR]at e
 |_ :: _,[],_,_,_,_,_,e,_=>by simp[Pv.cR]at e
 |i :: is,v :: vs,ds,fr,ah,aj,f,e,q=>by
  simp only[Pv.cR,Zz]at e;obtain⟨aq,l,o⟩:=e;obtain⟨d,C,rfl,p,r⟩:=q;obtain⟨f2,b,y⟩:=f.set l p;obtain⟨bP,a,f3,z,A⟩:=f2.cR o r;exact⟨bP,a,f3,λj=>(z j).trans (b j),λj g=>(A j (by rw[b j];exact g)).trans (y j g)⟩
theorem aY.bD(f:aY M B h S fr aj)(e:bD t v fr=some ah)(q:Rep h S v d):∃bP,Ev.bD t d aj=some bP/\aY M B h S ah bP/\(∀j,locked ah j=locked fr j)/\∀j,locked fr j=true->bP[j]?=aj[j]?:=by
 cases t with
 |one i=>exact⟨_,rfl,f.set e q⟩
 |many l=>
  cases v<;>simp only[Pv.bD,reduceCtorEq]at e
  obtain⟨ds,rfl,q⟩:=q;exact f.cR e q
theorem aY.undef(f:aY M B h S fr aj)(e:undef t fr=true):Ev.undef t aj=true:=by
 unfold Pv.undef at e;unfold Ev.undef;rw[List.all_eq_true]at e ⊢;intro i a;have:=e i a;cases z:fr[i]? with
 |none=>
  have:aj[i]?=none:=by
   rw[abY]at z ⊢;rw[<-f.len];exact z
  rw[this];rfl
 |some o=>
  obtain⟨p,b,q⟩:=f.get z;rw[z]at this;rcases o with _|s
  .subst q;rw[b];rfl
  .simp at this
def Aq{i:Nat}(e:(vF fr)[i]?=some o):∃o0,fr[i]?=some o0/\o=o0.map Sl.read:=by
 unfold vF at e;rw[aaa]at e;cases z:fr[i]? with
 |none=>rw[z]at e;exists e
 |some o0=>rw[z]at e;exists e;exact⟨o0,rfl,rfl⟩
theorem aY.ro(f:aY M B h S fr aj):aY (λ_=>False) B h S (vF fr) aj:=by
 refine⟨λm y=>⟨(f.wS m y).1,id,(f.wS m y).2.2⟩,λm y=>y.elim,f.wB,by simp[vF,f.len],λi o p g r=>?_,λi j o C m g r A F G H=>?_⟩
 .obtain⟨e,z,rfl⟩:=Aq g;have q:=f.sl i e p z r;rcases e with _|s
  .exact q
  .cases s with
   |val v=>exact q
   |own l=>obtain⟨m,ds,a,b,c,d⟩:=q;exact⟨m,ds,a,id,c,d⟩
   |bor l=>obtain⟨m,ds,a,b,c,d⟩:=q;exact⟨m,ds,a,id,c,d⟩
   |ro l=>obtain⟨m,ds,a,b,c,d⟩:=q;exact⟨m,ds,a,id,c,d⟩
 .obtain⟨e,z,rfl⟩:=Aq g;rcases e with _|s
  ·exists A
  .cases s <;> exists A
theorem iD:∀{z:List (Nat×T1)},(∀q∈z,bw h q.1=some q.2)->Ev.stays h z=true
 |[],_=>rfl
 | (n,ds) :: r,q=>by
  simp only[Ev.stays,yK];refine⟨?_,iD λx a=>q x (ZN _ a)⟩;rw[q (n,ds) (ZX ..)];exact Ev.Bg _
def kH(q:bw h n=some ds)(k:h'[n]?=h[n]?):bw h' n=some ds:=by
 unfold bw at q ⊢;rw[k];exact q
def oF(q:bw h n=some ds):n<h.length:=by
 unfold bw at q;cases z:h[n]? with
 |none=>rw[z]at q;exists q
 |some o=>exact(gL z).1
def O5(h:Hh)(S:X9):Option V->Option D->Prop
 |none,o=>o=none
 |some v,o=>∃d,o=some d/\Rep h S v d
theorem Ar(w0:∀m,S0 m->m<h0.length)(st:∀q∈ck,bw h0 q.1=some q.2)(Z:∀v o d h S,Al h0 S0 h S->f v=some o->Rep h S v d->∃o' h' S',f' d h=.ok o' h'/\O5 h' S' o o'/\Al h S h' S'):
  ∀{vs:T2} {ds:T1} {rs:T2} {h:Hh} {S:X9},Al h0 S0 h S->cI f vs=some rs->au h S vs ds->∃rs' h' S',Ev.cI f' ck ds h=.ok rs' h'/\au h' S' rs rs'/\Al h S h' S'
 |[],ds,rs,h,S,a,e,q=>by
  simp[cI]at e;subst e q;refine⟨[],h,S,?_,.nil,.refl⟩;simp only[Ev.cI];rw[gV (iD λx g=>kH (st x g) (a.keep _ (oF (st x g))))]
 |v :: vs,ds,rs,h,S,a,e,q=>by
  simp only[cI,Zz]at e;obtain⟨o,p,r,y,A⟩:=e;cases A;obtain⟨d,J,rfl,C,F⟩:=q;have w:∀m,S m->m<h.length:=λm z=>by
   rcases a.new m z with z|z
   .exact Uv (w0 m z) a.len
   .exact z.2
  obtain⟨o',h1,S1,G,i,b⟩:=Z v o d h S a p C;obtain⟨rs',h2,S2,H,l,j⟩:=Ar w0 st Z (a.trans b) y (F.mono (λm z=>b.keep m (w m z)) b.sub);have I:∀m,S1 m->m<h1.length:=λm z=>by
   rcases b.new m z with z|z
   .exact Uv (w m z) b.len
   .exact z.2
  refine⟨o'.toList++rs',h2,S2,?_,?_,b.trans j⟩
  .simp only[Ev.cI];rw[gV (iD λx g=>kH (st x g) (a.keep _ (oF (st x g)))),G,Ev.ao,H,Ev.ao]
  .cases o with
   |none=>subst i;simpa using l
   |some K=>
    simp only[O5]at i;obtain⟨L,rfl,i⟩:=i;exact .cons (i.mono (λm z=>j.keep m (I m z)) j.sub) l
end
def j8(k:Bool)(h:Hh)(S:X9)(v:T2)(d:T1):Prop:=if k=true then iA h S v d else au h S v d
inductive O6(P':Ev.aE)(e:E)(k:Bool)(v:V)(M B:X9)(h:Hh)(S:X9)(fr:Fr)(aj:Ev.Fr)(ah:Fr):Prop
 |mk (d:D) (h':Hh) (S':X9) (c0:Ev.ev P' e aj h=.ok d h') (c1:fR k h' S' v d) (c2:Out M B (aF e) h S fr aj h' S' ah):O6 P' e k v M B h S fr aj ah
inductive O7(P':Ev.aE)(e:E)(b:Bool)(M B:X9)(h:Hh)(S:X9)(fr:Fr)(aj:Ev.Fr)(ah:Fr):Prop
 |mk (h':Hh) (S':X9) (c0:Ev.bu P' e aj h=.ok b h') (c1:Out M B (aF e) h S fr aj h' S' ah):O7 P' e b M B h S fr aj ah
inductive O8(P':Ev.aE)(e:Es)(k:Bool)(v:T2)(M B:X9)(h:Hh)(S:X9)(fr:Fr)(aj:Ev.Fr)(ah:Fr):Prop
 |mk (d:T1) (h':Hh) (S':X9) (c0:Ev.bY P' e aj h=.ok d h') (c1:j8 k h' S' v d) (c2:Out M B (dD e) h S fr aj h' S' ah):O8 P' e k v M B h S fr aj ah
inductive O9(P':Ev.aE)(e:Es)(v:List (Nat ⊕ V))(M B:X9)(h:Hh)(S:X9)(fr:Fr)(aj:Ev.Fr)(ah:Fr):Prop
 |mk (d:T1) (h':Hh) (S':X9) (c0:Ev.bY P' e aj h=.ok d h') (c1:yd h' S' aj v d) (c2:Out M B (dD e) h S fr aj h' S' ah):O9 P' e v M B h S fr aj ah
inductive Pb(P':Ev.aE)(e:Eo)(v:Option Int)(M B:X9)(h:Hh)(S:X9)(fr:Fr)(aj:Ev.Fr)(ah:Fr):Prop
 |mk (h':Hh) (S':X9) (c0:Ev.iV P' e aj h=.ok v h') (c1:Out M B (jb e) h S fr aj h' S' ah):Pb P' e v M B h S fr aj ah
inductive Pc(P':Ev.aE)(e:Eo)(v:Bool)(M B:X9)(h:Hh)(S:X9)(fr:Fr)(aj:Ev.Fr)(ah:Fr):Prop
 |mk (h':Hh) (S':X9) (c0:Ev.kR P' e aj h=.ok v h') (c1:Out M B (jb e) h S fr aj h' S' ah):Pc P' e v M B h S fr aj ah
inductive Pd(P':Ev.aE)(e:It)(k:Bool)(v:T2)(M B:X9)(h:Hh)(S:X9)(fr:Fr)(aj:Ev.Fr)(ah:Fr):Prop
 |mk (s:Ev.Src) (h':Hh) (S':X9) (c0:Ev.cL P' e aj h=.ok s h') (c1:au h' S' v s.1) (c2:∀q∈s.2,bw h' q.1=some q.2/\(k=false->¬ M q.1)) (c3:Out M B (xU e) h S fr aj h' S' ah):Pd P' e k v M B h S fr aj ah
section
variable(P:aE)(P':Ev.aE)
def bx(e:E):Prop:=∀{k:Bool} {fr:Fr} {v:V} {ah:Fr} {M B:X9} {h:Hh} {S:X9} {aj:Ev.Fr},ev P k e fr=.ok v ah->aY M B h S fr aj->O6 P' e k v M B h S fr aj ah
def iB(e:E):Prop:=∀{fr:Fr} {b:Bool} {ah:Fr} {M B:X9} {h:Hh} {S:X9} {aj:Ev.Fr},bu P e fr=.ok b ah->aY M B h S fr aj->O7 P' e b M B h S fr aj ah
def j9(e:Es):Prop:=∀{k:Bool} {fr:Fr} {v:T2} {ah:Fr} {M B:X9} {h:Hh} {S:X9} {aj:Ev.Fr},bY P k e fr=.ok v ah->aY M B h S fr aj->O8 P' e k v M B h S fr aj ah
def rS(e:Es):Prop:=∀{fr:Fr} {v:List (Nat ⊕ V)} {ah:Fr} {M B:X9} {h:Hh} {S:X9} {aj:Ev.Fr},eL P e fr=.ok v ah->aY M B h S fr aj->O9 P' e v M B h S fr aj ah
def rT(e:Eo):Prop:=∀{fr:Fr} {v:Option Int} {ah:Fr} {M B:X9} {h:Hh} {S:X9} {aj:Ev.Fr},iV P e fr=.ok v ah->aY M B h S fr aj->Pb P' e v M B h S fr aj ah
def vW(e:Eo):Prop:=∀{fr:Fr} {v:Bool} {ah:Fr} {M B:X9} {h:Hh} {S:X9} {aj:Ev.Fr},kR P e fr=.ok v ah->aY M B h S fr aj->Pc P' e v M B h S fr aj ah
def kg(e:It):Prop:=∀{k:Bool} {fr:Fr} {v:T2} {ah:Fr} {M B:X9} {h:Hh} {S:X9} {aj:Ev.Fr},cL P k e fr=.ok v ah->aY M B h S fr aj->Pd P' e k v M B h S fr aj ah
end
section
variable{P:aE}{P':Ev.aE}{a b e tt:E}{es:Es}{lo hi:Eo}{it:It}
def Pe:bx P P' (.c d):=λz f=>by
 replace z:=aJ z;obtain⟨z,g⟩:=z;subst g;exact⟨d,_,_,by simp only[Ev.ev],.of (oA z),.refl f⟩
def Pf:bx P P' (.v i):=λz f=>by
 replace z:=aJ z;obtain⟨z,c⟩:=z;subst c;obtain⟨d,g,q⟩:=KR z f;exact⟨d,_,_,by simp only[Ev.ev,g,Ev.dB],q,.refl f⟩
def j8.n{S:X9}(q:j8 false h S v d):au h S v d:=by simpa[j8]using q
theorem au.tl{S:X9}:∀{v:T2}{d:T1},au h S v d->iA h S v d
 |[],_,q=>q
 |_ :: _,_,⟨d,es,a,b,q⟩=>⟨d,es,a,b.top,q.tl⟩
def j8.t{S:X9}(q:j8 k h S v d):iA h S v d:=by
 unfold j8 at q;split at q
 .exact q
 .exact q.tl
def DT(is:j9 P P' es):bx P P' (.tup es):=λz f=>by
 obtain⟨ds,l,g,c⟩:=ai z;replace c:=aJ c;obtain⟨c,p⟩:=c;obtain⟨d,h,S',i,q,o⟩:=is g f;unfold kF at c;split at c
 .rename_i j
  exists c
  refine⟨.tup d,h,S',?_,.of ⟨d,rfl,q.n⟩,o⟩;simp only[Ev.ev,i,Ev.ao];rw[gV (by rw[<-q.n.length];exact j)]
 ·exists c
def DU(is:j9 P P' es):bx P P' (.lst es):=λz f=>by
 obtain⟨ds,A,d,c⟩:=ai z;replace c:=aJ c;obtain⟨c,g⟩:=c;subst g;obtain⟨h,B,S',i,q,o⟩:=is d f;obtain⟨r,j,S2,l,p,y⟩:=jc o.f.w c q.n;exact⟨r,j,S2,by simp only[Ev.ev,i,Ev.ao,l],.of p,o.al y⟩
def mZ(e:Ev.ev P' a aj h=.ok d h1):∀i,a=.v i->aj[i]?.join=some d:=λi hi=>by
 subst hi;exact(Ev.aJ e).1
def two(I:bx P P' a)(Z:bx P P' b){α:Type}{X:V->V->Fr->R α}{u:α}{S:X9}(z:((ev P (kf a (aF b)) a fr).bind λx ah=>(ev P true b ah).bind λy aq=>X x y aq)=.ok u bQ)(f:aY M B h S fr aj):
  ∃x y d e h2 S2 aq,(∀{β:Type} (g:D->D->Hh->Ev.R β),((Ev.ev P' a aj h).bind λx h1=>(Ev.ev P' b aj h1).bind λy h2=>g x y h2)=g d e h2)/\X x y aq=.ok u bQ/\bV h2 S2 x d/\bV h2 S2 y e/\Out M B (aF a++aF b) h S fr aj h2 S2 aq:=by
 obtain⟨x,ah,l,z⟩:=ai z;obtain⟨y,aq,o,z⟩:=ai z;obtain⟨d,h1,S1,i,p,c⟩:=I l f;obtain⟨e,h2,S2,q,r,j⟩:=Z o c.f;exact⟨x,y,d,e,h2,S2,aq,λg=>by rw[i,Ev.ao,q,Ev.ao],z,(p.tr c.f j.tr id (mZ i)).t,r.t,c.trans j⟩
def DV(I:bx P P' a)(Z:bx P P' b):bx P P' (.bin o a b):=λz f=>by
 replace z:=two I Z z f;obtain⟨x,y,d,e,A,S2,B,k,z,g,h,c⟩:=z;replace z:=aJ z;obtain⟨z,i⟩:=z;subst i;obtain⟨r,j,S3,l,p,q⟩:=OS c.f.w z g h;exact⟨r,j,S3,by simp only[Ev.ev];rw[k];exact l,.of p,c.al q⟩
def DW(I:bx P P' a)(Z:bx P P' b):bx P P' (.cmp o a b):=λz f=>by
 replace z:=two I Z z f;obtain⟨x,y,d,e,c,S2,l,k,z,g,h,i⟩:=z;replace z:=aJ z;obtain⟨z,j⟩:=z;subst j;simp only[Uw]at z;obtain⟨b,z,rfl⟩:=z;exact⟨.bl b,c,S2,by simp only[Ev.ev];rw[k,OT z g.u h.u];rfl,.of rfl,i⟩
def Iz(I:bx P P' a)(Z:bx P P' b):bx P P' (.ix a b):=λz f=>by
 replace z:=two I Z z f;obtain⟨x,y,d,e,c,S2,p,k,z,g,h,i⟩:=z;replace z:=aJ z;obtain⟨z,j⟩:=z;subst j;obtain⟨r,l,o⟩:=OU z g h;exact⟨r,c,S2,by simp only[Ev.ev];rw[k,l];rfl,.of o,i⟩
def KS{d e:D}{S:X9}(z:uh x y=some v)(p:bV h S x d)(q:bV h S y e):∃r,Ev.wN d e h=some r/\Rep h S v r:=by
 unfold uh at z;split at z
 .obtain⟨n,rfl,_,p⟩:=p;subst q;obtain⟨s,c,rfl⟩:=kA z;exact⟨.str s,by simp[Ev.wN,Ev.eW,p,c],rfl⟩
 ·exists z
def DX(I:bx P P' a)(Z:bx P P' b):bx P P' (.jP a b):=λz f=>by
 replace z:=two I Z z f;obtain⟨x,y,d,e,c,S2,p,k,z,g,h,i⟩:=z;replace z:=aJ z;obtain⟨z,j⟩:=z;subst j;obtain⟨r,l,o⟩:=KS z g h;exact⟨r,c,S2,by simp only[Ev.ev];rw[k,l];rfl,.of o,i⟩
def DY(ia:bx P P' a)(ib:bx P P' b)(ic:bx P P' c):bx P P' (.jQ a b c):=λz f=>by
 replace z:=ai z;obtain⟨x,N,F,z⟩:=z;replace z:=ai z;obtain⟨y,Q,G,z⟩:=z;replace z:=ai z;obtain⟨u,W,H,z⟩:=z;replace z:=aJ z;obtain⟨z,I⟩:=z;subst I;obtain⟨d,X,S1,p,A,i⟩:=ia F f;obtain⟨e,Y,S2,q,J,h⟩:=ib G i.f;obtain⟨g,B,S3,C,K,j⟩:=ic H h.f;have l:=A.t;have o:=(A.tr i.f (h.trans j).tr id (mZ p)).t;have L:=(J.tr h.f j.tr id (mZ q)).t;have M:=K;unfold qJ at z;split at z
 .cases z;obtain⟨n,rfl,_,l⟩:=l;obtain⟨Z,en,_,o⟩:=o;cases en;subst L;rename_i r k _ _;cases hv:Ev.bU r k with
  |none=>exact⟨g,B,S3,by simp only[Ev.ev,p,Ev.ao,q,C];simp[Ev.wO,Ev.eW,l,o,hv,Ev.dB],.of M,i.trans (h.trans j)⟩
  |some s=>exact⟨.str s,B,S3,by simp only[Ev.ev,p,Ev.ao,q,C];simp[Ev.wO,Ev.eW,l,o,hv,Ev.dB],.of rfl,i.trans (h.trans j)⟩
 ·exists z
def R7(I:bx P P' a):bx P P' (.nt a):=λz f=>by
 replace z:=ai z;obtain⟨x,l,c,z⟩:=z;obtain⟨d,g,S1,h,i,j⟩:=I c f;cases x<;>simp only[reduceCtorEq]at z
 cases z;have q:=i.t;subst q;exact⟨_,g,S1,by simp only[Ev.ev,h,Ev.ao],.of rfl,j⟩
def DZ(I:bx P P' a):bx P P' (.neg a):=λz f=>by
 replace z:=ai z;obtain⟨x,l,c,z⟩:=z;obtain⟨d,g,S1,h,i,j⟩:=I c f;cases x<;>simp only[reduceCtorEq]at z
 cases z;have q:=i.t;subst q;exact⟨_,g,S1,by simp only[Ev.ev,h,Ev.ao],.of rfl,j⟩
def R8(I:bx P P' a)(Z:bx P P' b):bx P P' (.an a b):=λz f=>by
 replace z:=ai z;obtain⟨x,A,h,z⟩:=z;obtain⟨d,j,S1,g,l,c⟩:=I h f;cases x<;>try (exists z;done)
 rename_i k;have q:=l.t;subst q;cases k with
 |true=>
  try simp only at z
  obtain⟨d,o,S2,p,r,y⟩:=Z z c.f;exact⟨d,o,S2,by simp only[Ev.ev,g,Ev.ao,p],r,c.trans y⟩
 |false=>
  try simp only at z
  exists z
  exact⟨_,j,S1,by simp only[Ev.ev,g,Ev.ao],.of rfl,c.weak (by simp only[lH];intro i hi;simp[hi])⟩
def Pg(I:bx P P' a)(Z:bx P P' b):bx P P' (.orr a b):=λz f=>by
 replace z:=ai z;obtain⟨x,A,h,z⟩:=z;obtain⟨d,j,S1,g,l,c⟩:=I h f;cases x<;>try (exists z;done)
 rename_i k;have q:=l.t;subst q;cases k with
 |false=>
  try simp only at z
  obtain⟨d,o,S2,p,r,y⟩:=Z z c.f;exact⟨d,o,S2,by simp only[Ev.ev,g,Ev.ao,p],r,c.trans y⟩
 |true=>
  try simp only at z
  exists z
  exact⟨_,j,S1,by simp only[Ev.ev,g,Ev.ao],.of rfl,c.weak (by simp only[lH];intro i hi;simp[hi])⟩
def D3(it:iB P P' tt)(I:bx P P' a)(Z:bx P P' b):bx P P' (.iT tt a b):=λz f=>by
 replace z:=ai z;obtain⟨k,q,p,z⟩:=z;obtain⟨r,S1,o,c⟩:=it p f;cases k with
 |true=>
  obtain⟨d,g,S2,h,j,l⟩:=I z c.f;exact⟨d,g,S2,by simp only[Ev.ev,o,Ev.ao,Z2,h],j,(c.trans l).weak (by simp only[lH];intro i hi;simp at hi ⊢;rcases hi with hi|hi<;>simp[hi])⟩
 |false=>
  obtain⟨d,g,S2,h,j,l⟩:=Z z c.f;exact⟨d,g,S2,by simp only[Ev.ev,o,Ev.ao];exact h,j,(c.trans l).weak (by simp only[lH];intro i hi;simp at hi ⊢;rcases hi with hi|hi<;>simp[hi])⟩
def IA(Z:bx P P' a)(il:rT P P' lo)(ih:rT P P' hi):bx P P' (.sl a lo hi):=λz f=>by
 replace z:=ai z;obtain⟨x,J,j,z⟩:=z;replace z:=ai z;obtain⟨l,K,o,z⟩:=z;replace z:=ai z;obtain⟨u,L,p,z⟩:=z;replace z:=aJ z;obtain⟨z,y⟩:=z;subst y;obtain⟨d,M,S1,i,A,c⟩:=Z j f;obtain⟨N,S2,B,g⟩:=il o c.f;obtain⟨Q,S3,C,h⟩:=ih p g.f;have q:=(A.tr c.f (g.trans h).tr id (mZ i)).t;obtain⟨r,F,S4,G,H,I⟩:=OV h.f.w z q;exact⟨r,F,S4,by simp only[Ev.ev,i,Ev.ao,B,C,G],.of H,(c.trans (g.trans h)).al I⟩
theorem oG:∀{es:Es}{fr ah:Fr}{as:List (Nat ⊕ V)},eL P es fr=.ok as ah->∀i∈bO as,i∈jO es
 |.nil,_,_,_,z=>by simp only[eL]at z;cases z;simp[bO]
 |.cons e es,fr,ah,as,z=>by
  simp only[eL]at z;cases y:ig fr e with
  |some i=>
   rw[y]at z;replace z:=ai z;obtain⟨xs,f,d,z⟩:=z;cases z;have g:e=.v i:=by
    cases e<;>simp only[ig,reduceCtorEq]at y
    split at y
    .cases y;rfl
    .cases y
   subst g;intro j c;simp only[bO,abN]at c;simp only[jO,abN];exact c.imp id λc=>oG d j c
  |none=>
   rw[y]at z;replace z:=ai z;obtain⟨x,h,l,z⟩:=z;replace z:=ai z;obtain⟨xs,f,d,z⟩:=z;cases z;intro j c;have:=oG d j c;cases e<;>simp only[jO]<;>first|exact this|exact ZN _ this
def IB(I:pH P P')(is:rS P P' es):bx P P' (.cl g es):=λz f=>by
 replace z:=ai z;obtain⟨y,A,c,z⟩:=z;obtain⟨ds,B,S1,j,l,h⟩:=is c f;obtain⟨d,o,S2,p,q,r⟩:=qK I z h.f l;exact⟨d,o,S2,by simp only[Ev.ev,j,Ev.ao,p],.of q,(h.trans r).weak (by
  intro i hi;rcases kS hi with hi|hi
  .exact List.mem_append.mpr (.inl hi)
  .exact List.mem_append.mpr (.inr (oG c i hi)))⟩
def IC(is:j9 P P' es):bx P P' (.bi g es):=λz f=>by
 replace z:=ai z;obtain⟨y,A,d,z⟩:=z;replace z:=aJ z;obtain⟨z,h⟩:=z;subst h;obtain⟨ds,B,S1,i,j,c⟩:=is d f;obtain⟨r,l,S4,o,p,q⟩:=OX c.f.w z j.t;exact⟨r,l,S4,by simp only[Ev.ev,i,Ev.ao,o],.of p,c.al q⟩
def D4(I:bx P P' a):bx P P' (.iU a):=λz f=>by
 replace z:=ai z;obtain⟨x,q,c,z⟩:=z;replace z:=aJ z;obtain⟨z,g⟩:=z;subst g;obtain⟨d,h,S1,i,j,l⟩:=I c f;obtain⟨r,o,p⟩:=OW z j.t;exact⟨r,h,S1,by simp only[Ev.ev,i,Ev.ao,o],.of p,l⟩
def ID(io:bx P P' o)(is:j9 P P' es):bx P P' (.me m o es):=λ{k fr v ah M B h S aj} z f=>by
 simp only[ev]at z;by_cases F:jG m=true
 .rw[gV F]at z;cases y:ig fr o with
  |none=>rw[y]at z;exists z
  |some i=>
  rw[y]at z;try simp only at z
  replace z:=ai z;obtain⟨Q,W,X,z⟩:=z;have hy:o=.v i/\∃s,lent fr i=some s:=by
   cases o<;>simp only[ig,reduceCtorEq]at y
   rename_i j;split at y
   .rename_i Y
    exists y
    exact⟨rfl,gN Y⟩
   ·exists y
  obtain⟨rfl,s,Y⟩:=hy;obtain⟨n,cs,_,_,_,G,w3,_,_⟩:=jx Y f;obtain⟨ds,H,S1,I,C,c⟩:=is X f;have N:Ev.zA m (.ref n) h=true:=by cases m<;>simp[jG]at F<;>simp[Ev.zA,jw w3]
  have Z:DO m=false->au H S1 Q ds:=λhh=>by rw[hh]at C;exact C.n
  have fin:∀s l l',W[i]?=some (some s)->iK (some s)=true->(∀ds,oO s ds=.lst ds)->(∃q g,aj[i]?=some (some (.ref q))/\H[q]?=some (.lst g)/\au H S1 l g)->kW m l Q=some (v,l')->ah=W.set i (some (s.with l'))->
    O6 P' (.me m (.v i) es) k v M B h S fr aj ah:=by
   intro s l l' k1 k2 k0 ⟨q,g,k3,J,K⟩ L k7;rw[G]at k3;cases k3;have mn:=c.f.mM k1 k2 G;obtain⟨r,ds',a1,a2,a3⟩:=O4 L J K C.t Z λk z y=>(c.f.wS k z).2.1 (y▸mn);have fw:=c.f.write (l':=l') k1 k2 G a3;subst k7;refine⟨r,_,S1,?_,.of (a2.mono (λm z=>l8 λy=>(c.f.wS m z).2.1 (y▸mn)) λ_ z=>z),fw,?_,λj=>?_⟩
   .simp only[Ev.ev,G,Option.join,Ev.dB,Ev.ao,N,Z2,I];simp only[Option.bind,id,Ev.dB,Ev.ao,N,Z2,I];rw[k0];exact a1
   .refine⟨by simpa using c.tr.len,λm y1 y2=>?_,c.tr.sub,λm y=>by simpa using c.tr.new m y
     ⟩
    have y3:¬ Xs M aj (dD es) m:=λz=>y2 (Xs.mono (by simp only[lH];intro i hi;simp[hi]) z);have y4:m≠n:=λz=>y2 ⟨z▸mn,i,by simp[lH,Iu,F],by rw[z];exact G⟩;rw[l8 (λ(z:n=m)=>y4 z.symm)];exact c.tr.keep m y1 y3
   .rw[<-c.lk j];unfold locked;by_cases hj:i=j
    .subst hj;rw[Jb (gL k1).1,k1];exact An
    .rw[AN hj]
  split at z
  .rename_i l k1;have A:=c.f.get k1;obtain⟨p,k2,q,g,rfl,_,J,K⟩:=A;split at z
   .rename_i v' l' L
    exists z
    exact fin _ l l' k1 rfl (λ_=>rfl) ⟨q,g,k2,J,K⟩ L rfl
   ·exists z
  .rename_i l k1;have A:=c.f.get k1;obtain⟨p,k2,q,g,rfl,_,J,K⟩:=A;split at z
   .rename_i v' l' L
    exists z
    exact fin _ l l' k1 rfl (λ_=>rfl) ⟨q,g,k2,J,K⟩ L rfl
   ·exists z
  ·exists z
 .rw[Yl F]at z;replace z:=ai z;obtain⟨x,W,X,z⟩:=z;replace z:=ai z;obtain⟨Q,bB,z2,z⟩:=z;replace z:=aJ z;obtain⟨z,y0⟩:=z;subst y0;obtain⟨d,H,S1,I,C,c⟩:=io X f;obtain⟨ds,h2,S2,e2,q2,o2⟩:=is z2 c.f;have hm':jG m=false:=by simpa using F
  have As:=(C.tr c.f o2.tr id (mZ I)).t;obtain⟨a1,r,a2,a3⟩:=OY z hm' As q2.t;have N:Ev.zA m d H=true:=by
   unfold fK at z;split at z
   .have:=C.t;simp only[bV,Rep]at this;subst this;rfl
   ·exists z
  exact⟨r,h2,S2,by simp only[Ev.ev,I,Ev.ao,N,Z2,e2,a2],.of a3,(c.trans o2).weak (by simp only[lH];intro i hi;simp at hi ⊢;rcases hi with hi|hi<;>simp[hi])⟩
def yf{cond:Eo}(ii:kg P P' it)(ic:vW P P' cond)(ie:bx P P' elt):bx P P' (.comp elt t it cond):=λz f=>by
 replace z:=ai z;obtain⟨vs,A,H,z⟩:=z;split at z
 case isFalse=>exists z
 rename_i I;replace z:=aJ z;obtain⟨z,J⟩:=z;subst J;simp only[Zz]at z;obtain⟨rs,K,L⟩:=z;obtain⟨s,h1,S1,M,N,Q,g⟩:=ii H f;have XS:=g.f.ro;obtain⟨W,j,S2,l,X,B⟩:=Ar (f':=λd j=>match Ev.bD t d _ with
    |none=>.bad
    |some A=>(Ev.kR P' cond A j).bind λk p=>if k then (Ev.ev P' elt A p).bind λx i=>.ok (some x) i else .ok none p) g.f.w (λq Y=>(Q q Y).1) (λv o d h S al y q=>by
  split at y
  ·exists y
  .rename_i bB Z;obtain⟨kI,b1,C,_,_⟩:=(XS.al al).bD Z q;rw[b1];split at y
   .rename_i c iI y2;obtain⟨p,S3,l,oc⟩:=ic y2 C;have Ph:=oc.tr.al λm z=>z.1;split at y
    .rename_i F;split at y
     .rename_i x nJ y3
      exists y
      obtain⟨G,i,S4,d1,d2,od⟩:=ie y3 (C.al Ph);refine⟨some G,i,S4,?_,⟨G,rfl,d2.n⟩,Ph.trans (od.tr.al λm z=>z.1)⟩;simp only[l,Ev.ao,Z2,d1]
     ·exists y
    .rename_i F
     exists y
     refine⟨none,p,S3,?_,rfl,Ph⟩;simp only[l,Ev.ao];rw[Yl F]
   ·exists y) Al.refl K N
 obtain⟨r,i,S4,a1,a2,a3⟩:=jc (g.f.al B).w L X;refine⟨r,i,S4,?_,.of a2,(g.al B).al a3⟩;simp only[Ev.ev,M,Ev.ao];rw[gV (g.f.undef I)];refine Eq.trans (ZJ (λq:Ev.R (T1)=>q.bind λds j=>Ev.alloc ds j) l) ?_;simp only[Ev.ao,a1]
def D5(I:kg P P' it):bx P P' (.gZ it):=λz f=>by
 replace z:=ai z;obtain⟨q,y,d,z⟩:=z;replace z:=aJ z;obtain⟨z,g⟩:=z;subst g;obtain⟨s,A,S1,h,i,B,c⟩:=I d f;obtain⟨r,j,S4,l,o,p⟩:=jc c.f.w z i;exact⟨r,j,S4,by simp only[Ev.ev,h,Ev.ao,l],.of o,c.al p⟩
def Pj:j9 P P' .nil:=λ{k fr v ah M B h S aj} z f=>by
 exists z
 refine⟨[],_,_,by simp only[Ev.bY],?_,.refl f⟩;unfold j8;split<;>rfl
def KU(I:bx P P' e)(is:j9 P P' es):j9 P P' (.cons e es):=λ{k fr v ah M B h S aj} z f=>by
 replace z:=ai z;obtain⟨x,y,l,z⟩:=z;replace z:=ai z;obtain⟨xs,A,o,z⟩:=z
 exists z
 obtain⟨d,C,S1,i,p,c⟩:=I l f;obtain⟨ds,q,S2,r,g,j⟩:=is o c.f;have As:=p.tr c.f j.tr (by intro z;simp at z;exact z.2) (mZ i);refine⟨d :: ds,q,S2,by simp only[Ev.bY,i,Ev.ao,r],?_,c.trans j⟩;unfold j8 at g ⊢;cases k with
 |true=>exact⟨d,ds,rfl,As.t,g⟩
 |false=>
  exact .cons (by simpa[fR]using As) g
def KW:rS P P' .nil:=λz f=>by
 simp only[eL]at z
 exists z
 exact⟨[],_,_,by simp only[Ev.bY],rfl,.refl f⟩
def GG(Z:bx P P' e)(is:rS P P' es):rS P P' (.cons e es):=λ{fr v ah M B h S aj} z f=>by
 simp only[eL]at z;cases y:ig fr e with
 |some i=>
  rw[y]at z;try simp only at z
  replace z:=ai z;obtain⟨xs,C,g,z⟩:=z
  exists z
  have F:e=.v i/\∃s,lent fr i=some s:=by
   cases e<;>simp only[ig,reduceCtorEq]at y
   rename_i j;split at y
   .rename_i l
    exists y
    exact⟨rfl,gN l⟩
   ·exists y
  obtain⟨rfl,s,l⟩:=F;obtain⟨n,J,_,_,_,A,K,_,_⟩:=jx l f;obtain⟨ds,o,S2,p,q,c⟩:=is g f;refine⟨.ref n :: ds,o,S2,?_,⟨_,_,rfl,A,q⟩,c.weak (by simp only[dD,lH];intro i hi;simpa using hi)⟩;simp only[Ev.bY,Ev.ev,A,Option.join,Option.bind,id,Ev.dB,Ev.ao,p]
 |none=>
  rw[y]at z;try simp only at z
  replace z:=ai z;obtain⟨x,L,G,z⟩:=z;replace z:=ai z;obtain⟨xs,C,g,z⟩:=z
  exists z
  obtain⟨d,N,S1,H,I,r⟩:=Z G f;obtain⟨ds,o,S2,p,q,c⟩:=is g r.f;exact⟨d :: ds,o,S2,by simp only[Ev.bY,H,Ev.ao,p],⟨_,_,rfl,I.n.tr r.f c.tr,q⟩,r.trans c⟩
def R9:rT P P' .no:=λz f=>by
 simp only[iV]at z;exists z;exact⟨_,_,by simp only[Ev.iV],.refl f⟩
def Pk(I:bx P P' e):rT P P' (.yes e):=λz f=>by
 replace z:=ai z;obtain⟨x,o,c,z⟩:=z;replace z:=aJ z;obtain⟨z,g⟩:=z;subst g;obtain⟨d,h,S1,i,j,l⟩:=I c f;cases x<;>simp[intOf]at z
 subst z;have q:=j.t;subst q;exact⟨h,S1,by simp only[Ev.iV,i,Ev.ao];rfl,l⟩
def Pn:vW P P' .no:=λz f=>by
 simp only[kR]at z;exists z;exact⟨_,_,by simp only[Ev.kR],.refl f⟩
def KY(I:iB P P' e):vW P P' (.yes e):=λz f=>by
 obtain⟨c,S1,d,g⟩:=I z f;exact⟨c,S1,by simp only[Ev.kR,d],g⟩
def Wb(I:iB P P' a)(Z:iB P P' b):iB P P' (.an a b):=λz f=>by
 rw[ON]at z;replace z:=ai z;obtain⟨k,p,g,z⟩:=z;obtain⟨h,S1,d,c⟩:=I g f;cases k with
 |true=>
  obtain⟨j,S2,l,o⟩:=Z z c.f;exact⟨j,S2,by simp only[Ev.Ft,d,Ev.ao,Z2,l],c.trans o⟩
 |false=>
  exists z
  exact⟨h,S1,by simp only[Ev.Ft,d,Ev.ao];rfl,c.weak (by simp only[lH];intro i hi;simp[hi])⟩
def Sa(I:iB P P' a)(Z:iB P P' b):iB P P' (.orr a b):=λz f=>by
 rw[OO]at z;replace z:=ai z;obtain⟨k,p,g,z⟩:=z;obtain⟨h,S1,d,c⟩:=I g f;cases k with
 |false=>
  obtain⟨j,S2,l,o⟩:=Z z c.f;exact⟨j,S2,by simp only[Ev.Fv,d,Ev.ao];exact l,c.trans o⟩
 |true=>
  exists z
  exact⟨h,S1,by simp only[Ev.Fv,d,Ev.ao];rfl,c.weak (by simp only[lH];intro i hi;simp[hi])⟩
def Wd(I:iB P P' a):iB P P' (.nt a):=λz f=>by
 rw[OP]at z;replace z:=ai z;obtain⟨k,i,c,z⟩:=z;obtain⟨d,S1,g,h⟩:=I c f
 exists z
 exact⟨d,S1,by simp only[Ev.MP,g,Ev.ao],h⟩
def dZ(I:bx P P' e)(h1:∀fr,bu P e fr=(ev P true e fr).bind λx ah=>.ok (truthy x) ah)(h2:∀fr h,Ev.bu P' e fr h=(Ev.ev P' e fr h).bind λx h1=>Ev.R.of (Ev.truthy h1 x) h1):iB P P' e:=λz f=>by
 rw[h1]at z;replace z:=ai z;obtain⟨x,ah,c,z⟩:=z
 exists z
 obtain⟨d,h1,S1,g,i,j⟩:=I c f;exact⟨h1,S1,by rw[h2,g,Ev.ao,DQ i.t];rfl,j⟩
def yg(Z:bx P P' e){S:X9}(z:src k fr e (ev P k e fr)=.ok v ah)(f:aY M B h S fr aj):
  ∃d h' S',Ev.ev P' e aj h=.ok d h'/\bV h' S' v d/\(k=false->∀n,d=.ref n->¬ M n)/\Out M B (aF e) h S fr aj h' S' ah:=by
 have g:ev P k e fr=.ok v ah->∃d h' S',Ev.ev P' e aj h=.ok d h'/\bV h' S' v d/\(k=false->∀n,d=.ref n->¬ M n)/\Out M B (aF e) h S fr aj h' S' ah:=λz=>by
  obtain⟨d,C,S1,r,A,o⟩:=Z z f;refine⟨d,C,S1,r,A.t,λF n c=>?_,o⟩;subst F;have q:=A.n;cases v<;>simp only[Rep]at q
  .cases q.symm.trans c
  .cases q.symm.trans c
  .cases q.symm.trans c
  .cases q.symm.trans c
  .obtain⟨_,q,_⟩:=q;cases q.symm.trans c
  .obtain⟨m,ds,q,j,_⟩:=q;cases q.symm.trans c;exact(o.f.wS _ j).2.1
  .obtain⟨m,ds,q,j,_⟩:=q;cases q.symm.trans c;exact(o.f.wS _ j).2.1
  .obtain⟨m,q,j,_⟩:=q;cases q.symm.trans c;exact(o.f.wS _ j).2.1
 cases e
 case v i=>
  replace z:=aJ z;obtain⟨z,G⟩:=z;subst G;unfold um at z;split at z
  .rename_i l y
   exists z
   obtain⟨p,r,m,ds,rfl,H,I,J⟩:=f.get y;exact⟨.ref m,h,S,by simp only[Ev.ev,r,Option.join,Option.bind,id,Ev.dB],⟨m,ds,rfl,I,J⟩,λ_ n K=>by exists K;exact H,.refl f⟩
  .exact g (by simp only[ev,z,dB])
 all_goals exact g z
def Po(I:bx P P' e):kg P P' (.seq e):=λz f=>by
 replace z:=ai z;obtain⟨x,C,h,z⟩:=z;replace z:=aJ z;obtain⟨z,i⟩:=z;subst i;obtain⟨d,j,S1,l,o,p,r⟩:=yg I h f;obtain⟨s,y,A,c⟩:=Gz z o;exact⟨s,j,S1,by simp only[Ev.cL,l,Ev.ao,y,Ev.dB],A,λq g=>⟨(c q g).2,λB=>p B _ (c q g).1⟩,r⟩
def KZ(is:j9 P P' es):kg P P' (.jM es):=λz f=>by
 replace z:=ai z;obtain⟨x,y,c,z⟩:=z;replace z:=aJ z;obtain⟨z,g⟩:=z;subst g;obtain⟨d,h,S1,i,j,l⟩:=is c f;obtain⟨s,o,p⟩:=OZ z j.t;exact⟨(s,[]),h,S1,by simp only[Ev.cL,i,Ev.ao,o,Ev.dB],p,λq r=>by simp at r,l⟩
def K0(I:bx P P' e):kg P P' (.rev e):=λz f=>by
 replace z:=ai z;obtain⟨x,r,c,z⟩:=z;replace z:=aJ z;obtain⟨z,y⟩:=z;obtain⟨d,g,S1,h,i,j⟩:=I c f;simp only[Uw]at z;obtain⟨l,z,rfl⟩:=z;cases x<;>simp only[BN,reduceCtorEq]at z
 exists z
 have k1:=i.t;obtain⟨ds,o,k2⟩:=k1;subst o;exact⟨(ds.reverse,[]),g,S1,by simp only[Ev.cL,h,Ev.ao,Ev.Fq,Option.map,Ev.dB],k2.reverse,λq p=>by simp at p,j⟩
def GH(I:bx P P' e):kg P P' (.lE e):=λz f=>by
 replace z:=ai z;obtain⟨x,r,g,z⟩:=z;replace z:=aJ z;obtain⟨z,h⟩:=z;subst h;obtain⟨d,i,S1,j,l,o⟩:=I g f;cases x<;>simp only[Gy,reduceCtorEq]at z
 rename_i a;cases z;have k1:=l.t;subst k1;exact⟨(Ev.dj 0 (a.map λc=>.str [c]),[]),i,S1,by simp only[Ev.cL,j,Ev.ao,Ev.Fp,Option.map,Ev.dB],Ak 0 (au.map (λs=>by simp[Rep]) _),λq p=>by simp at p,o⟩
def GI(I:bx P P' a)(Z:bx P P' b):kg P P' (.wL a b):=λz f=>by
 replace z:=two I Z z f;obtain⟨x,y,d,e,g,S2,j,k,z,l,o,h⟩:=z;replace z:=aJ z;obtain⟨z,p⟩:=z;unfold Ir at z;split at z
 .rename_i a b
  exists z
  exact⟨(Ev.jt (a.map λc=>.str [c]) (b.map λc=>.str [c]),[]),g,S2,by simp only[Ev.cL];rw[k];simp[Ev.HM],yc (au.map (λs=>by simp[Rep]) _) (au.map (λs=>by simp[Rep]) _),λq i=>by simp at i,h⟩
 ·exists z
def K2(ia:bx P P' a)(ib:bx P P' b):kg P P' (.zip a b):=λ{k fr v ah M B h S aj} z f=>by
 replace z:=ai z;obtain⟨x,aq,I,z⟩:=z;replace z:=ai z;obtain⟨y,bB,J,z⟩:=z;replace z:=aJ z;obtain⟨z,K⟩:=z;subst K;obtain⟨d,L,S1,C,r,o,i⟩:=yg ia I f;obtain⟨e,F,S2,N,Q,W,j⟩:=yg ib J i.f;simp only[Uw,Zz]at z;obtain⟨l,X,m,Y,rfl⟩:=z;have As:bV F S2 x d:=by
  by_cases c:(k&&kf a (aF b))=true
  .exact(fR.tr (by unfold fR;rw[gV rfl];exact r) i.f j.tr (λ_=>by simp at c;exact c.2) (mZ C)).t
  .have o:=o (by simpa using c);cases x
   case lst l=>
    obtain⟨n,ds,rfl,p,A⟩:=r;exact⟨n,ds,rfl,by rw[j.tr.keep n (gL p).1 (λz=>o n rfl z.1)];exact p,A.tr i.f j.tr⟩
   all_goals exact Rep.tr (show Rep L S1 _ d from r) i.f j.tr
 obtain⟨s,p,A,G⟩:=Ai X As;obtain⟨t,Z,b2,H⟩:=Ai Y Q;refine⟨(Ev.jt s.1 t.1,s.2++t.2),F,S2,by simp only[Ev.cL,C,Ev.ao,N,p,Z,Option.bind,Option.map,Ev.dB],yc A b2,λq g=>?_,i.trans j⟩;rcases kS g with g|g
 .exact⟨(G q g).2,λc=>o (by simp[c]) _ (G q g).1⟩
 .exact⟨(H q g).2,λc=>W c _ (H q g).1⟩
end
section
variable{P:aE}{P':Ev.aE}(HP:pH P P')
include HP
mutual
theorem aX:∀e:E,bx P P' e
 |.c _=>Pe
 |.v _=>Pf
 |.tup d=>DT (gz d)
 |.lst d=>DU (gz d)
 |.bin _ a b=>DV (aX a) (aX b)
 |.cmp _ a b=>DW (aX a) (aX b)
 |.nt a=>R7 (aX a)
 |.neg a=>DZ (aX a)
 |.an a b=>R8 (aX a) (aX b)
 |.orr a b=>Pg (aX a) (aX b)
 |.iT t a b=>D3 (gA t) (aX a) (aX b)
 |.ix a b=>Iz (aX a) (aX b)
 |.sl a i j=>IA (aX a) (rX i) (rX j)
 |.gf=>λz _=>by simp only[ev]at z;cases z
 |.jP a b=>DX (aX a) (aX b)
 |.jQ a b c=>DY (aX a) (aX b) (aX c)
 |.cl _ d=>IB HP (oH d)
 |.bi _ d=>IC (gz d)
 |.me _ o d=>ID (aX o) (gz d)
 |.comp g _ h f=>yf (kJ h) (D6 f) (aX g)
 |.gZ h=>D5 (kJ h)
 |.iU a=>D4 (aX a)
theorem gA:∀e:E,iB P P' e
 |.an a b=>Wb (gA a) (gA b)
 |.orr a b=>Sa (gA a) (gA b)
 |.nt a=>Wd (gA a)
 |.c x=>dZ Pe (λ_=>fj rfl) (λ_ _=>Ev.eN rfl)
 |.v x=>dZ Pf (λ_=>fj rfl) (λ_ _=>Ev.eN rfl)
 |.tup d=>dZ (DT (gz d)) (λ_=>fj rfl) (λ_ _=>Ev.eN rfl)
 |.lst d=>dZ (DU (gz d)) (λ_=>fj rfl) (λ_ _=>Ev.eN rfl)
 |.bin _ a b=>dZ (DV (aX a) (aX b)) (λ_=>fj rfl) (λ_ _=>Ev.eN rfl)
 |.cmp _ a b=>dZ (DW (aX a) (aX b)) (λ_=>fj rfl) (λ_ _=>Ev.eN rfl)
 |.neg a=>dZ (DZ (aX a)) (λ_=>fj rfl) (λ_ _=>Ev.eN rfl)
 |.iT t a b=>dZ (D3 (gA t) (aX a) (aX b)) (λ_=>fj rfl) (λ_ _=>Ev.eN rfl)
 |.ix a b=>dZ (Iz (aX a) (aX b)) (λ_=>fj rfl) (λ_ _=>Ev.eN rfl)
 |.sl a i j=>dZ (IA (aX a) (rX i) (rX j)) (λ_=>fj rfl) (λ_ _=>Ev.eN rfl)
 |.gf=>dZ (λz _=>by simp only[ev]at z;cases z) (λ_=>fj rfl) (λ_ _=>Ev.eN rfl)
 |.jP a b=>dZ (DX (aX a) (aX b)) (λ_=>fj rfl) (λ_ _=>Ev.eN rfl)
 |.jQ a b c=>dZ (DY (aX a) (aX b) (aX c)) (λ_=>fj rfl) (λ_ _=>Ev.eN rfl)
 |.cl _ d=>dZ (IB HP (oH d)) (λ_=>fj rfl) (λ_ _=>Ev.eN rfl)
 |.bi _ d=>dZ (IC (gz d)) (λ_=>fj rfl) (λ_ _=>Ev.eN rfl)
 |.me _ o d=>dZ (ID (aX o) (gz d)) (λ_=>fj rfl) (λ_ _=>Ev.eN rfl)
 |.comp g _ h f=>dZ (yf (kJ h) (D6 f) (aX g)) (λ_=>fj rfl) (λ_ _=>Ev.eN rfl)
 |.gZ h=>dZ (D5 (kJ h)) (λ_=>fj rfl) (λ_ _=>Ev.eN rfl)
 |.iU a=>dZ (D4 (aX a)) (λ_=>fj rfl) (λ_ _=>Ev.eN rfl)
theorem gz:∀e:Es,j9 P P' e
 |.nil=>Pj
 |.cons e a=>KU (aX e) (gz a)
theorem oH:∀e:Es,rS P P' e
 |.nil=>KW
 |.cons e a=>GG (aX e) (oH a)
theorem rX:∀e:Eo,rT P P' e
 |.no=>R9
 |.yes e=>Pk (aX e)
theorem D6:∀e:Eo,vW P P' e
 |.no=>Pn
 |.yes e=>KY (gA e)
theorem kJ:∀e:It,kg P P' e
 |.seq e=>Po (aX e)
 |.jM c=>KZ (gz c)
 |.zip a b=>K2 (aX a) (aX b)
 |.rev a=>K0 (aX a)
 |.lE a=>GH (aX a)
 |.wL a b=>GI (aX a) (aX b)
end
end
structure Tr(M B:X9)(h:Hh)(S:X9)(M':X9)(h':Hh)(S':X9):Prop where
 len:h.length<=h'.length
 keep:∀m,m<h.length->¬ M m->h'[m]?=h[m]?
 sub:∀m,S m->S' m
 new:∀m,S' m->S m\/(h.length<=m/\m<h'.length)\/(M m/\¬ B m)
 qM:∀m,M' m->M m\/h.length<=m
structure dR(M B:X9)(h:Hh)(S:X9)(fr:Fr)(aj:Ev.Fr)(M':X9)(h':Hh)(S':X9)(ah:Fr)(bP:Ev.Fr):Prop where
 f:aY M' B h' S' ah bP
 tr:Tr M B h S M' h' S'
 lk:∀i,locked ah i=locked fr i
 rf:∀i,locked fr i=true->bP[i]?=aj[i]?
def jS(h:Hh)(S:X9):Fl->Ev.Fl->Prop
 |.nx,g=>g=.nx
 |.bk,g=>g=.bk
 |.ct,g=>g=.ct
 |.ret v,g=>∃d,g=.ret d/\Rep h S v d
section
variable{M B M' M1 M2:X9}{h h1 h2:Hh}{S S' S1 S2:X9}{fr ah aq:Fr}{aj bP lJ:Ev.Fr}{c:Ξ}{v:V}{d:D}
def dR.refl(f:aY M B h S fr aj):dR M B h S fr aj M h S fr aj:=⟨f,⟨Zw _,λ_ _ _=>rfl,λ_ q=>q,λ_ q=>.inl q,λ_ q=>.inl q
 ⟩,λ_=>rfl,λ_ _=>rfl⟩
def Out.s(o:Out M B c h S fr aj h1 S1 ah):dR M B h S fr aj M h1 S1 ah aj:=⟨o.f,⟨o.tr.len,λm a b=>o.tr.keep m a (λz=>b z.1),o.tr.sub,λm q=>(o.tr.new m q).imp id .inl,λ_ q=>.inl q
 ⟩,o.lk,λ_ _=>rfl⟩
theorem dR.trans(f0:aY M B h S fr aj)(a:dR M B h S fr aj M1 h1 S1 ah bP)(b:dR M1 B h1 S1 ah bP M2 h2 S2 aq lJ):dR M B h S fr aj M2 h2 S2 aq lJ where
 f:=b.f
 tr:=⟨ZL a.tr.len b.tr.len,λm e g=>by
   rw[b.tr.keep m (Uv e a.tr.len) (λz=>by
    rcases a.tr.qM m z with z|z
    .exact g z
    .lia),a.tr.keep m e g],λm q=>b.tr.sub m (a.tr.sub m q),λm q=>by
   rcases b.tr.new m q with q|q|q
   .rcases a.tr.new m q with q|q|q
    .exact .inl q
    .exact .inr (.inl ⟨q.1,Uv q.2 b.tr.len⟩)
    .exact .inr (.inr q)
   .exact .inr (.inl ⟨ZL a.tr.len q.1,q.2⟩)
   .rcases a.tr.qM m q.1 with z|z
    .exact .inr (.inr ⟨z,q.2⟩)
    .exact .inr (.inl ⟨z,Uv (a.f.wM m q.1) b.tr.len⟩),λm q=>by
   rcases b.tr.qM m q with q|q
   .exact a.tr.qM m q
   .exact .inr (ZL a.tr.len q)
  ⟩
 lk:=λi=>(b.lk i).trans (a.lk i)
 rf:=λi q=>(b.rf i (by rw[a.lk i];exact q)).trans (a.rf i q)
def aY.kind(f:aY M B h S fr aj)(g:Option Sl->Option Sl->Prop)(hl:ah.length=fr.length)(hg:∀(i:Nat) o,ah[i]?=some o->∃o0,fr[i]?=some o0/\(o=o0\/(∃l,o0=some (.own l)/\o=some (.val (.lst l)))\/(∃l,o0=some (.bor l)/\o=some (.ro l)))):
  ∃M' S',dR M B h S fr aj M' h S' ah aj:=by
 let X:=λm=>∃(i:Nat) (l:T2),fr[i]?=some (some (Sl.own l))/\ah[i]?=some (some (Sl.val (V.lst l)))/\aj[i]?=some (some (D.ref m))
 let Y:=λm=>∃(i:Nat) (l:T2),fr[i]?=some (some (Sl.bor l))/\ah[i]?=some (some (Sl.ro l))/\aj[i]?=some (some (D.ref m))
 have J:∀m,X m->M m/\¬ B m:=λm ⟨i,l,a,_,b⟩=>by
  obtain⟨m',ds,e,q,_⟩:=f.sl i _ _ a b;cases e;exact q
 have mono:∀{l:T2} {ds:T1},au h S l ds->au h (λm=>S m\/X m) l ds:=λq=>q.mono (λ_ _=>rfl) λ_ z=>.inl z;refine⟨λm=>M m/\¬ X m/\¬ Y m,λm=>S m\/X m,⟨⟨λm q=>?_,λm q=>f.wM m q.1,f.wB,by rw[hl,f.len],λi o p F G=>?_,λi j o P m Q W Z y4 y5 y6=>?_⟩,⟨Zw _,λ_ _ _=>rfl,λ_ q=>.inl q,λm q=>?_,λm q=>.inl q.1
  ⟩,λi=>?_,λ_ _=>rfl⟩⟩
 .rcases q with q|q
  .exact⟨(f.wS m q).1,λz=>(f.wS m q).2.1 z.1,(f.wS m q).2.2⟩
  .exact⟨f.wM m (J m q).1,λz=>z.2.1 q,(J m q).2⟩
 .obtain⟨o0,A,k⟩:=hg i o F;have r:=f.sl i o0 p A G;rcases k with rfl|⟨l,rfl,rfl⟩|⟨l,rfl,rfl⟩
  .rcases o with _|s
   .exact r
   .cases s with
    |val v=>obtain⟨d,e,q⟩:=r;exact⟨d,e,q.mono (λ_ _=>rfl) λ_ z=>.inl z⟩
    |own l=>
     obtain⟨m,ds,rfl,z,y,q⟩:=r;refine⟨m,ds,rfl,⟨⟨z.1,λ⟨j,K,H,C,I⟩=>?_,λ⟨j,K,H,C,I⟩=>?_⟩,z.2⟩,y,mono q⟩
     .have:=f.inj i j _ _ m A H rfl rfl G I;subst this;rw[F]at C;cases C
     .have:=f.inj i j _ _ m A H rfl rfl G I;subst this;rw[F]at C;cases C
    |bor l=>
     obtain⟨m,ds,rfl,z,y,q⟩:=r;refine⟨m,ds,rfl,⟨⟨z.1,λ⟨j,K,H,C,I⟩=>?_,λ⟨j,K,H,C,I⟩=>?_⟩,z.2⟩,y,mono q⟩
     .have:=f.inj i j _ _ m A H rfl rfl G I;subst this;rw[F]at C;cases C
     .have:=f.inj i j _ _ m A H rfl rfl G I;subst this;rw[F]at C;cases C
    |ro l=>obtain⟨m,ds,rfl,z,y,q⟩:=r;exact⟨m,ds,rfl,λw=>z w.1,y,mono q⟩
  .obtain⟨m,ds,rfl,z,y,q⟩:=r;exact⟨.ref m,rfl,m,ds,rfl,.inr ⟨i,l,A,F,G⟩,y,mono q⟩
  .obtain⟨m,ds,rfl,z,y,q⟩:=r;exact⟨m,ds,rfl,λw=>w.2.2 ⟨i,l,A,F,G⟩,y,mono q⟩
 .have N:∀(i:Nat) o,ah[i]?=some o->iK o=true->∃o0,fr[i]?=some o0/\iK o0=true:=λi o w1 L=>by
   obtain⟨o0,A,k⟩:=hg i o w1;rcases k with rfl|⟨l,rfl,rfl⟩|⟨l,rfl,rfl⟩
   .exact⟨o,A,L⟩
   ·exists L
   ·exists L
  obtain⟨oi,k1,k2⟩:=N i o Q Z;obtain⟨oj,k3,k4⟩:=N j P W y4;exact f.inj i j oi oj m k1 k3 k2 k4 y5 y6
 .rcases q with q|q
  .exact .inl q
  .exact .inr (.inr (J m q))
 .unfold locked;cases z:ah[i]? with
  |none=>
   have:fr[i]?=none:=by rw[abY]at z ⊢;lia
   rw[this]
  |some o=>
   obtain⟨o0,A,k⟩:=hg i o z;rw[A];rcases k with rfl|⟨l,rfl,rfl⟩|⟨l,rfl,rfl⟩<;>rfl
def aY.gW(f:aY M B h S fr aj):∃M' S',dR M B h S fr aj M' h S' (gM fr) aj:=by
 refine f.kind (λ_ _=>True) (by simp[gM]) λi o e=>?_;unfold gM at e;rw[aaa]at e;cases z:fr[i]? with
 |none=>rw[z]at e;exists e
 |some a=>
  rw[z]at e;exists e;refine⟨a,rfl,?_⟩;rcases a with _|s
  .exact .inl rfl
  .cases s with
   |own l=>exact .inr (.inl ⟨l,rfl,rfl⟩)
   |_=>exact .inl rfl
theorem aY.walk:∀(is:Ξ) {M:X9}{S:X9}{fr:Fr},aY M B h S fr aj->∃M' S',dR M B h S fr aj M' h S' (mW is fr) aj
 |[],_,_,_,f=>⟨_,_,.refl f⟩
 |i :: is,M,S,fr,f=>by
  have one:∃M1 S1,dR M B h S fr aj M1 h S1 (match fr[i]? with|some (some s)=>fr.set i (some s.walk)|_=>fr) aj:=by
   split
   .rename_i s z;have g:=(gL z).1;refine f.kind (λ_ _=>True) (by simp) λj o e=>?_;by_cases a:i=j
    .subst a;rw[Jb g]at e
     exists e
     refine⟨_,z,?_⟩;cases s with
     |own l=>exact .inr (.inl ⟨l,rfl,rfl⟩)
     |bor l=>exact .inr (.inr ⟨l,rfl,rfl⟩)
     |_=>exact .inl rfl
    .rw[AN a]at e;exact⟨o,e,.inl rfl⟩
   .exact⟨M,S,.refl f⟩
  obtain⟨M1,S1,b⟩:=one;obtain⟨M2,S2,p⟩:=aY.walk is b.f;exact⟨M2,S2,b.trans f p⟩
def Uc:Sl->List V->Prop
 |.own l,l'=>l=l'
 |_,_=>False
def aY.We(f:aY M B h S fr aj)(hs:Uc s l)(e:put fr i s=some ah)(q:au h S l ds):dR M B h S fr aj (λm=>M m\/m=h.length) (h++oO s ds :: rest) S ah (aj.set i (some (.ref h.length))):=by
 have X:ah=fr.set i (some s)/\locked fr i=false:=by
  unfold put at e;unfold locked;split at e
  ·exists e
  ·exists e
  .rename_i k1 k2
   exists e
   refine⟨rfl,?_⟩;cases z:fr[i]? with
   |none=>rfl
   |some o=>
    rcases o with _|s
    .rfl
    .cases s with
     |bor l=>exact absurd z (k1 l)
     |ro l=>exact absurd z (k2 l)
     |_=>rfl
 obtain⟨rfl,N⟩:=X;have kp:∀m,m<h.length->(h++oO s ds :: rest)[m]?=h[m]?:=λm z=>by rw[oW z]
 have H:=λm z=>kp m (f.w m z);refine⟨⟨λm y=>⟨by have:=(f.wS m y).1;simp;lia,λz=>?_,(f.wS m y).2.2⟩,λm y=>?_,λm y=>by have:=f.wB m y;simp;lia,by simp[f.len],λj o p A F=>?_,λj k o P m A F Q W I J=>?_⟩,⟨by simp,λm y _=>kp m y,λ_ z=>z,λ_ z=>.inl z,λm z=>z.imp id (λz=>by lia)
   ⟩,λj=>?_,λj g=>?_⟩
 .rcases z with z|z
  .exact(f.wS m y).2.1 z
  .have:=(f.wS m y).1;lia
 .rcases y with y|y
  .have:=f.wM m y;simp;lia
  .subst y;simp
 .by_cases g:i=j
  .subst g;have G:i<fr.length:=by have:=(gL A).1;simpa using this
   rw[Jb G]at A;rw[Jb (by rw[<-f.len];exact G)]at F
   exists A;exists F
   cases s<;>first
    |exact hs.elim
    | (simp only[Uc]at hs;subst hs;exact⟨h.length,ds,rfl,⟨.inr rfl,λz=>by have:=f.wB _ z;lia⟩,by simp[oO],q.mono H λ_ z=>z⟩)
  .rw[AN g]at A F;have C:=f.sl j o p A F;rcases o with _|s
   .exact C
   .cases s with
    |val v=>obtain⟨d,e,q⟩:=C;exact⟨d,e,q.mono H λ_ z=>z⟩
    |own l=>obtain⟨m,K,rfl,z,y,q⟩:=C;exact⟨m,K,rfl,⟨.inl z.1,z.2⟩,by rw[kp m (f.wM m z.1)];exact y,q.mono H λ_ z=>z⟩
    |bor l=>obtain⟨m,K,rfl,z,y,q⟩:=C;exact⟨m,K,rfl,⟨.inl z.1,z.2⟩,by rw[kp m (f.wM m z.1)];exact y,q.mono H λ_ z=>z⟩
    |ro l=>
     obtain⟨m,K,rfl,z,y,q⟩:=C;have Y:=(gL y).1;exact⟨m,K,rfl,λw=>by rcases w with w|w;exact z w;lia,by rw[kp m Y];exact y,q.mono H λ_ z=>z⟩
 .have L:∀(j:Nat) o,i≠j->fr[j]?=some o->iK o=true->aj[j]?=some (some (.ref m))->m<h.length:=λj o _ Z w2 w3=>f.wM m (f.mM Z w2 w3);have new:∀(j:Nat),j<fr.length->i=j->(aj.set i (some (.ref h.length)))[j]?=some (some (.ref m))->m=h.length:=λj G g w=>by
   subst g;rw[Jb (by rw[<-f.len];exact G)]at w;cases w;rfl
  have lj:j<fr.length:=by have:=(gL A).1;simpa using this
  have lk:k<fr.length:=by have:=(gL F).1;simpa using this
  by_cases g:i=j
  .by_cases r:i=k
   .rw[<-g,<-r]
   .have a:=new j lj g I;rw[AN r]at F J;have b:=L k P r F W J;lia
  .by_cases r:i=k
   .have a:=new k lk r J;rw[AN g]at A I;have b:=L j o g A Q I;lia
   .rw[AN g]at A I;rw[AN r]at F J;exact f.inj j k o P m A F Q W I J
 .by_cases g:i=j
  .subst g;rw[N];unfold locked;by_cases G:i<fr.length
   .rw[Jb G];cases s<;>first|rfl|exact hs.elim
   .rw[Z7 (by simpa using G)]
  .unfold locked;rw[AN g]
 .have:i≠j:=λz=>by subst z;rw[N]at g;exists g
  rw[AN this]
theorem aY.own(f:aY M B h S fr aj)(e:put fr i (.own l)=some ah)(q:au h S l ds):dR M B h S fr aj (λm=>M m\/m=h.length) (h++[.lst ds]) S ah (aj.set i (some (.ref h.length))):=f.We (s:=.own l) rfl e q
end
inductive Pp(P':Ev.aE)(w:Nat)(s:S)(g:Fl)(M B:X9)(h:Hh)(S:X9)(fr:Fr)(aj:Ev.Fr)(ah:Fr):Prop
 |mk (g':Ev.Fl) (bP:Ev.Fr) (M':X9) (h':Hh) (S':X9) (c0:Ev.ex P' w s aj h=.ok (g',bP) h') (c1:jS h' S' g g') (c2:dR M B h S fr aj M' h' S' ah bP):Pp P' w s g M B h S fr aj ah
inductive Pq(P':Ev.aE)(w:Nat)(s:Ss)(g:Fl)(M B:X9)(h:Hh)(S:X9)(fr:Fr)(aj:Ev.Fr)(ah:Fr):Prop
 |mk (g':Ev.Fl) (bP:Ev.Fr) (M':X9) (h':Hh) (S':X9) (c0:Ev.exs P' w s aj h=.ok (g',bP) h') (c1:jS h' S' g g') (c2:dR M B h S fr aj M' h' S' ah bP):Pq P' w s g M B h S fr aj ah
section
variable(P:aE)(P':Ev.aE)(w:Nat)
def oJ(s:S):Prop:=∀{fr:Fr} {g:Fl} {ah:Fr} {M B:X9} {h:Hh} {S:X9} {aj:Ev.Fr},ex P w s fr=.ok g ah->aY M B h S fr aj->Pp P' w s g M B h S fr aj ah
def rY(s:Ss):Prop:=∀{fr:Fr} {g:Fl} {ah:Fr} {M B:X9} {h:Hh} {S:X9} {aj:Ev.Fr},exs P w s fr=.ok g ah->aY M B h S fr aj->Pq P' w s g M B h S fr aj ah
end
section
variable{P:aE}{P':Ev.aE}{w:Nat}(HP:pH P P')
include HP
theorem IE{i x f n0:Nat}{ck:List (Nat×T1)}(hxi:x≠i):∀(vs:T2) (ds:T1) (k K:Θ) (h:Hh) (S:X9) (fr:Ev.Fr),kG P f vs k=some K->au h S vs ds->(∀m,S m->m<h.length/\m≠n0)->h[n0]?=some (.dct k)->fr[i]?=some (some (.ref n0))->(ds≠[]->x<fr.length)->(∀q∈ck,bw h q.1=some q.2)->
  ∃(h':Hh) (S':X9),Ev.forL (λd aq h2=>match Ev.bD (.one x) d aq with|some bB=>Ev.rC P' (.v i) (.cl f (.cons (.v x) .nil)) bB h2|none=>.bad) ck ds fr h=.ok (.nx,(ds.getLast?.map λd=>fr.set x (some d)).getD fr) h'/\h'[n0]?=some (.dct K)/\h.length<=h'.length/\(∀m,m<h.length->m≠n0->h'[m]?=h[m]?)/\(∀m,S m->S' m)/\(∀m,S' m->S m\/(h.length<=m/\m<h'.length))
 |[],ds,k,K,h,S,fr,e,q,w,hn,hi,hx,st=>by
  simp only[kG]at e;cases e;simp only[au]at q;subst q;refine⟨h,S,?_,hn,Zw _,λ_ _ _=>rfl,λ_ z=>z,λ_ z=>.inl z⟩;simp only[Ev.forL];rw[gV (iD st)];rfl
 |v :: vs,ds,k,K,h,S,fr,e,q,w,hn,hi,hx,st=>by
  simp only[kG]at e;split at e
  case h_2=>cases e
  rename_i m Y;split at e
  case isFalse=>cases e
  rename_i Z;simp only[au]at q;obtain⟨d,A,rfl,q1,q2⟩:=q;have XT:=(gL hn).1;have cW:aY (λ_=>False) (λ_=>False) h S ([Sl.val v].map some) ([d].map some):=⟨λm z=>⟨(w m z).1,λz=>z,λz=>z⟩,λm z=>z.elim,λm z=>z.elim,rfl,λj o p a b=>by
   cases j with
   |zero=>simp at a b;subst a b;exact⟨d,rfl,q1⟩
   |succ j=>simp at a,λj1 j2 o o' m a b c _ _ _=>by
   cases j1 with
   |zero=>simp at a;subst a;cases c
   |succ j=>simp at a⟩
  obtain⟨d',r,S1,p1,L,l,p4⟩:=HP f [.val v] _ _ Y h S (λ_=>False) [d] cW;simp only[Rep]at L;obtain⟨j,rfl,sj,hj⟩:=L;have k1:∀m,m<h.length->r[m]?=h[m]?:=λm z=>l.keep m z λz=>z;have F:∀m,S1 m->m<r.length/\m≠n0:=λm z=>by
   rcases l.new m z with z|z
   .exact⟨Uv (w m z).1 l.len,(w m z).2⟩
   .exact⟨z.2,λy=>by subst y;lia⟩
  have jn:n0≠j:=λz=>(F j sj).2 z.symm;have B:r[n0]?=some (.dct k):=by rw[k1 n0 XT];exact hn
  have Wf:=(gL B).1;have G:∀g,g≠n0->(r.set n0 (.dct (Ev.cj k m)))[g]?=r[g]?:=λg z=>AN λy=>z y.symm;have XU:∀q∈ck,q.1≠n0:=λq C z=>by
   have:=st q C;rw[z]at this;simp[bw,hn]at this
  obtain⟨h2,S2,M,g2,H,N,g5,Q⟩:=IE hxi vs A (Ev.cj k m) K (r.set n0 (.dct (Ev.cj k m))) S1 (fr.set x (some d)) e (q2.mono (λg z=>by rw[G g (w g z).2,k1 g (w g z).1]) l.sub) (λg z=>⟨by rw[List.length_set];exact(F g z).1,(F g z).2⟩) (Jb Wf) (by rw[AN hxi];exact hi) (λ_=>by rw[List.length_set];exact hx (by simp))
   (λq C=>kH (st q C) (by rw[G _ (XU q C),k1 _ (oF (st q C))]))
  rw[List.length_set]at H N Q;refine⟨h2,S2,?_,g2,ZL l.len H,λg W X=>by rw[N g (Uv W l.len) X,G g X,k1 g W],λg z=>g5 g (l.sub g z),λg z=>?_⟩
  .have big:k.length+m.length<=Ev.big:=ZL Z (by decide);have I:(fr.set x (some d))[x]?=some (some d):=Jb (hx (by simp));have XW:(fr.set x (some d))[i]?=some (some (.ref n0)):=by rw[AN hxi];exact hi
   have du:Ev.rC P' (.v i) (.cl f (.cons (.v x) .nil)) (fr.set x (some d)) h=.ok (.nx,fr.set x (some d)) (r.set n0 (.dct (Ev.cj k m))):=by
    simp[Ev.rC,Ev.ev,Ev.bY,XW,I,Ev.R.bind,Ev.R.of,p1,Ev.vU,Ev.eW,hn,B,hj,jn,big]
   simp only[Ev.forL];rw[gV (iD st)];simp only[Ev.bD];rw[du];simp only[Ev.ao];simp only[Ev.bD]at M;rw[M];cases A with
   |nil=>rfl
   |cons J A=>
    have:(d :: J :: A).getLast?=(J :: A).getLast?:=by simp[List.getLast?_cons_cons]
    rw[this];cases z:(J :: A).getLast? with
    |none=>simp at z
    |some d3=>simp[List.set_set]
  .rcases Q g z with z|z
   .rcases l.new g z with z|z
    .exact .inl z
    .exact .inr ⟨z.1,Uv z.2 H⟩
   .exact .inr ⟨ZL l.len z.1,z.2⟩
omit HP in
theorem yh{h:Hh}{S:X9}:∀{vs:T2}{ds:T1},au h S vs ds->(vs.getLast?=none/\ds.getLast?=none)\/∃v d,vs.getLast?=some v/\ds.getLast?=some d/\Rep h S v d
 |[],ds,q=>by simp only[au]at q;subst q;exact .inl ⟨rfl,rfl⟩
 |v :: vs,ds,q=>by
  simp only[au]at q;obtain⟨d,e,rfl,f,g⟩:=q;refine .inr ?_;rcases yh g with ⟨a,b⟩|⟨i,j,a,b,c⟩
  .have l:=List.getLast?_eq_none_iff.mp a;have o:=List.getLast?_eq_none_iff.mp b;subst l o;exact⟨v,d,rfl,rfl,f⟩
  .refine⟨i,j,?_,?_,c⟩
   .cases vs with|nil=>cases a|cons x xs=>rw[List.getLast?_cons_cons];exact a
   .cases e with|nil=>cases b|cons x xs=>rw[List.getLast?_cons_cons];exact b
omit HP in
theorem aY.XX{M B:X9}{h h':Hh}{S S':X9}{fr:Fr}{aj:Ev.Fr}{n0:Nat}{k:Θ}(f:aY M B h S fr aj)(I:h[n0]?=some (.dct k))(Z:∀m,S m->m≠n0)(nM:¬ M n0)(nB:¬ B n0)(len:h.length<=h'.length)(keep:∀m,m<h.length->m≠n0->h'[m]?=h[m]?)(sub:∀m,S m->S' m)(new:∀m,S' m->S m\/(h.length<=m/\m<h'.length)\/m=n0):aY M B h' S' fr aj where
 wS:=λm q=>by
  rcases new m q with q|⟨j,a⟩|rfl
  .exact⟨Uv (f.wS m q).1 len,(f.wS m q).2⟩
  .exact⟨a,λz=>by have:=f.wM m z;omega,λz=>by have:=f.wB m z;omega⟩
  .exact⟨Uv (gL I).1 len,nM,nB⟩
 wM:=λm q=>Uv (f.wM m q) len
 wB:=λm q=>Uv (f.wB m q) len
 len:=f.len
 sl:=λi o p b c=>by
  have q:=f.sl i o p b c;have k:∀m,S m->h'[m]?=h[m]?:=λm z=>keep m (f.w m z) (Z m z);have g:∀(m:Nat) (ds:T1),h[m]?=some (O.lst ds)->h'[m]?=some (O.lst ds):=λm ds z=>by
   rw[keep m (gL z).1 (λy=>by rw[y,I]at z;cases z)];exact z
  rcases o with _|s
  .exact q
  .cases s with
   |val v=>obtain⟨d,e,q⟩:=q;exact⟨d,e,q.mono k sub⟩
   |own l=>obtain⟨m,ds,e,z,y,q⟩:=q;exact⟨m,ds,e,z,g m ds y,q.mono k sub⟩
   |bor l=>obtain⟨m,ds,e,z,y,q⟩:=q;exact⟨m,ds,e,z,g m ds y,q.mono k sub⟩
   |ro l=>obtain⟨m,ds,e,z,y,q⟩:=q;exact⟨m,ds,e,z,g m ds y,q.mono k sub⟩
 inj:=f.inj
def K3:oJ P P' w (.gT i x y f):=λ{fr g ah M B h S aj} z f0=>by
 simp only[ex]at z;split at z
 case isFalse=>exists z
 rename_i hc;obtain⟨XY,J,X,Y⟩:=hc;rw[f0.len]at X Y;replace z:=ai z;obtain⟨vs,aq,z1,z⟩:=z;replace z:=ai z;obtain⟨K,bB,F,z⟩:=z;replace F:=aJ F;obtain⟨F,C⟩:=F;replace z:=ai z;obtain⟨iI,Z,G,z⟩:=z;replace G:=aJ G;obtain⟨G,C⟩:=G;replace z:=ai z;obtain⟨Zp,TF,l,z⟩:=z;replace l:=aJ l;obtain⟨l,C⟩:=l;exists z;have e:(h++[O.dct []]).length=h.length+1:=by simp
 have f1:=f0.al ⟨by rw[e];lia,λm z=>oW z,λ_ z=>z,λ_ z=>.inl z⟩;obtain⟨M1,S1,r⟩:=f1.walk [y];obtain⟨s,h2,S2,e1,q1,q2,A⟩:=kJ HP (.seq (.v y)) z1 r.f;have o:=e1;simp only[Ev.cL,Ev.ev]at o;replace o:=Ev.ai o;obtain⟨dx,T9,I,o⟩:=o;replace I:=Ev.aJ I;obtain⟨I,C⟩:=I;subst C;replace o:=Ev.aJ o;obtain⟨o,C⟩:=o;subst C;have e3:Ev.cL P' (.seq (.v y)) (aj.set i (some (.ref h.length))) (h++[.dct []])=.ok s (h++[.dct []]):=by
  rw[<-e1];simp only[Ev.cL,Ev.ev,AN XY]
 have hn:(h++[O.dct []])[h.length]?=some (.dct []):=by simp
 have XZ:¬ M1 h.length:=λz=>by
  rcases r.tr.qM _ z with z|z
  .have:=f0.wM _ z;lia
  .lia
 have nB:¬ B h.length:=λz=>by have:=f0.wB _ z;lia
 have Ud:∀m,S2 m->S m\/(M m/\¬ B m):=λm z=>by
  rcases A.tr.new m z with z|z
  .rcases r.tr.new m z with z|z|z
   .exact .inl z
   .lia
   .exact .inr z
  .lia
 have Pr:∀m,S2 m->m≠h.length:=λm z y=>by
  rcases Ud m z with z|z
  .have:=(f0.wS m z).1;lia
  .have:=f0.wM m z.1;lia
 obtain⟨H,S',g1,g2,L,N,Q,g6⟩:=IE HP (i:=i) (x:=x) (f:=f) (n0:=h.length) (ck:=s.2) J vs s.1 [] K (h++[.dct []]) S2 (aj.set i (some (.ref h.length))) F q1 (λm z=>⟨(A.f.wS m z).1,Pr m z⟩) hn (Jb X) (λ_=>by rw[List.length_set];exact Y) (λq hq=>(q2 q hq).1);have f2:=A.f.XX (S':=λm=>S' m\/m=h.length) hn Pr XZ nB L N (λm z=>.inl (Q m z)) (λm z=>by
  rcases z with z|z
  .exact(g6 m z).imp id .inl
  .exact .inr (.inr z))
 obtain⟨f3,W,r3⟩:=f2.set G (d:=.ref h.length) (show Rep H _ (.dct K) _ from ⟨_,rfl,.inr rfl,g2⟩);have q3:∀{v:V} {d:D},Rep (h++[.dct []]) S2 v d->Rep H (λm=>S' m\/m=h.length) v d:=λq=>q.mono (λm z=>N m (A.f.wS m z).1 (Pr m z)) λm z=>.inl (Q m z);have fin:∀{bQ:Fr} {p:Ev.Fr},aY M1 B H (λm=>S' m\/m=h.length) bQ p->(∀j,locked bQ j=locked Z j)->(∀j,locked Z j=true->p[j]?=aj[j]?)->dR M B h S fr aj M1 H (λm=>S' m\/m=h.length) bQ p:=λ{bQ p} fz lz rz=>⟨fz,⟨by rw[e]at L;lia,λm y1 y2=>by
   rw[N m (by rw[e];lia) (by lia)];exact oW y1,λm z=>.inl (Q m (A.tr.sub m (r.tr.sub m z))),λm z=>by
   rcases z with z|z
   .rcases g6 m z with z|z
    .rcases Ud m z with z|z
     .exact .inl z
     .exact .inr (.inr z)
    .rw[e]at z;exact .inr (.inl ⟨by lia,z.2⟩)
   .rw[e]at L;exact .inr (.inl ⟨by lia,by lia⟩),λm z=>by
   rcases r.tr.qM m z with z|z
   .exact .inl z
   .rw[e]at z;exact .inr (by lia)
   ⟩,λj=>(lz j).trans ((A.lk j).trans (r.lk j)),λj z=>rz j (by rw[A.lk j,r.lk j];exact z)⟩
 have Ue:∀p,(s.1.getLast?.map λd=>(aj.set i (some (.ref h.length))).set x (some d)).getD (aj.set i (some (.ref h.length)))=p->Ev.ex P' w (.gT i x y f) aj h=.ok (.nx,p) H:=λp z=>by
  rw[<-z];simp only[Ev.g7,e3,Ev.ao];exact g1
 rcases yh q1 with ⟨a,b⟩|⟨v,d,a,b,c⟩
 .unfold jH at l;rw[a]at l
  exists l
  exact⟨.nx,_,_,_,_,Ue _ (by rw[b];rfl),rfl,fin f3 W r3⟩
 .unfold jH at l;rw[a]at l;obtain⟨f4,l4,r4⟩:=f3.set l (q3 c);exact⟨.nx,_,_,_,_,Ue _ (by rw[b];rfl),rfl,fin f4 (λj=>(l4 j).trans (W j)) (λj z=>(r4 j (by rw[W j];exact z)).trans (r3 j z))⟩
def GJ{i:Nat}{e:E}{fr:Fr}{g:Fl}{ah:Fr}{M B:X9}{h:Hh}{S:X9}{aj:Ev.Fr}(z:((ev P false e fr).bind λx ah=>if isNew e then (match x with
   |.lst l=>(R.of (put ah i (.own l)) ah).bind λaq _=>.ok .nx aq
   |_=>.bad)
  else (R.of (put ah i (.val x)) ah).bind λaq _=>.ok .nx aq)=.ok g ah)(f:aY M B h S fr aj):Pp P' w (.set i e) g M B h S fr aj ah:=by
 replace z:=ai z;obtain⟨x,aq,a,z⟩:=z;by_cases r:isNew e=true
 .rw[gV r]at z;have y:∃l ds c S1,x=.lst l/\au c S1 l ds/\Ev.ev P' e aj h=.ok (.ref c.length) (c++[.lst ds])/\Out M B (aF e) h S fr aj c S1 aq:=by
   cases e <;> (try simp only[isNew,aaD]at r)
   case lst es=>
    replace a:=ai a;obtain⟨l,A,b,a⟩:=a;replace a:=aJ a;obtain⟨a,p⟩:=a;subst p;unfold dX at a;split at a
    case isFalse=>cases a
    rename_i C;cases a;obtain⟨ds,c,S1,q,j,o⟩:=gz HP es b f;refine⟨l,ds,c,S1,rfl,j.n,?_,o⟩;simp only[Ev.ev,q,Ev.ao,Ev.alloc];rw[gV (by rw[<-j.n.length];exact C)]
   case gZ it=>
    replace a:=ai a;obtain⟨l,A,b,a⟩:=a;replace a:=aJ a;obtain⟨a,p⟩:=a;subst p;unfold dX at a;split at a
    case isFalse=>cases a
    rename_i C
    exists a
    obtain⟨s,c,S1,q,j,J,o⟩:=kJ HP it b f;refine⟨l,s.1,c,S1,rfl,j,?_,o⟩;simp only[Ev.ev,q,Ev.ao,Ev.alloc];rw[gV (by rw[<-j.length];exact C)]
  obtain⟨l,ds,c,S1,rfl,j,q,o⟩:=y;simp only at z;replace z:=ai z;obtain⟨A,F,b,z⟩:=z;replace b:=aJ b;obtain⟨b,p⟩:=b;subst p
  exists z
  have G:=o.f.own b j;exact⟨.nx,_,_,_,_,by simp only[Ev.g7,q,Ev.ao],rfl,o.s.trans f G⟩
 .rw[Yl r]at z;replace z:=ai z;obtain⟨A,F,b,z⟩:=z;replace b:=aJ b;obtain⟨b,p⟩:=b;subst p
  exists z
  obtain⟨d,c,S1,q,j,o⟩:=aX HP e a f;obtain⟨f2,H,I⟩:=o.f.set b j.n;refine⟨.nx,_,_,_,_,by simp only[Ev.g7,q,Ev.ao],rfl,o.s.trans f ⟨f2,(dR.refl f2).tr,H,I⟩⟩
def K4:oJ P P' w (.set i e):=λ{fr g ah M B h S aj} z f=>by
 exact GJ HP z f
def Pu:oJ P P' w (.exp e):=λ{fr g ah M B h S aj} z f=>by
 replace z:=ai z;obtain⟨x,i,a,z⟩:=z
 exists z
 obtain⟨d,j,S1,b,l,c⟩:=aX HP e a f;exact⟨.nx,_,_,_,_,by simp only[Ev.g7,b,Ev.ao],rfl,c.s⟩
def Pw:oJ P P' w (.ret e):=λ{fr g ah M B h S aj} z f=>by
 replace z:=ai z;obtain⟨x,l,b,z⟩:=z
 exists z
 obtain⟨M1,S1,a⟩:=f.gW;obtain⟨d,o,S2,c,i,j⟩:=aX HP e b a.f;exact⟨.ret d,_,_,_,_,by simp only[Ev.g7,c,Ev.ao],⟨d,rfl,i.n⟩,a.trans f j.s⟩
omit HP in
theorem uq{F:V->Fr->R Fl}{F':D->Ev.Fr->Hh->Ev.R (Ev.Fl×Ev.Fr)}{ck:List (Nat×T1)}{B:X9}{M0:X9}{h0:Hh}{S0:X9}{cW:Fr}{GK:Ev.Fr}(f0:aY M0 B h0 S0 cW GK)(st:∀q∈ck,bw h0 q.1=some q.2/\¬ M0 q.1)(Z:∀v d fr g ah M h S aj,F v fr=.ok g ah->aY M B h S fr aj->Rep h S v d->∃g' bP M' h' S',F' d aj h=.ok (g',bP) h'/\jS h' S' g g'/\dR M B h S fr aj M' h' S' ah bP):
  ∀{vs:T2} {ds:T1} {fr:Fr} {g:Fl} {ah:Fr} {M:X9} {h:Hh} {S:X9} {aj:Ev.Fr},forL F vs fr=.ok g ah->dR M0 B h0 S0 cW GK M h S fr aj->au h S vs ds->
  ∃g' bP M' h' S',Ev.forL F' ck ds aj h=.ok (g',bP) h'/\jS h' S' g g'/\dR M0 B h0 S0 cW GK M' h' S' ah bP
 |[],ds,fr,g,ah,M,h,S,aj,e,o,q=>by
  simp only[forL]at e;simp only[au]at q;subst q;cases e;refine⟨.nx,aj,M,h,S,?_,rfl,o⟩;simp only[Ev.forL];rw[gV (iD λx b=>kH (st x b).1 (o.tr.keep _ (oF (st x b).1) (st x b).2))]
 |v :: vs,ds,fr,g,ah,M,h,S,aj,e,o,q=>by
  simp only[forL]at e;replace e:=ai e;obtain⟨p,K,L,e⟩:=e;simp only[au]at q;obtain⟨d,N,rfl,Q,W⟩:=q;obtain⟨g',I,M2,j,S2,c,a,l⟩:=Z v d fr p K M h S aj L o.f Q;have i:=o.trans f0 l;have IF:Ev.stays h ck=true:=iD λx b=>kH (st x b).1 (o.tr.keep _ (oF (st x b).1) (st x b).2);have Ug:au j S2 vs N:=W.mono (λm z=>l.tr.keep m (o.f.wS m z).1 (o.f.wS m z).2.1) l.tr.sub;cases p with
  |nx=>
   simp only[jS]at a;subst a;simp only at e;obtain⟨r,y,M3,A,S3,C,G,H⟩:=uq f0 st Z e i Ug;refine⟨r,y,M3,A,S3,?_,G,H⟩;simp only[Ev.forL];rw[gV IF,c,Ev.ao];exact C
  |ct=>
   simp only[jS]at a;subst a;simp only at e;obtain⟨r,y,M3,A,S3,C,G,H⟩:=uq f0 st Z e i Ug;refine⟨r,y,M3,A,S3,?_,G,H⟩;simp only[Ev.forL];rw[gV IF,c,Ev.ao];exact C
  |bk=>
   simp only[jS]at a;subst a;simp only at e;cases e;refine⟨.nx,I,M2,j,S2,?_,rfl,i⟩;simp only[Ev.forL];rw[gV IF,c,Ev.ao]
  |ret x=>
   simp only[jS]at a;obtain⟨J,rfl,a⟩:=a;simp only at e;cases e;refine⟨.ret J,I,M2,j,S2,?_,⟨J,rfl,a⟩,i⟩;simp only[Ev.forL];rw[gV IF,c,Ev.ao]
def Px(ib:rY P P' w b):oJ P P' w (.for t it b):=λ{o g H M B h S p} z f=>by
 replace z:=ai z;obtain⟨vs,r,I,z⟩:=z;obtain⟨M1,S1,A⟩:=f.walk (itv it);obtain⟨s,C,S2,J,K,F,a⟩:=kJ HP it I A.f;have L:=A.trans f a.s;obtain⟨c,e,M',i,S',N,Q,W⟩:=uq (F':=λd r C=>match Ev.bD t d r with
   |some j=>Ev.exs P' w b j C
   |none=>.bad) a.f (λq G=>⟨(F q G).1,(F q G).2 rfl⟩) (λv d o g H M h S p y f q=>by
  split at y
  .rename_i j X;obtain⟨Y,Z,l,b3,b4⟩:=f.bD X q;rw[Z];obtain⟨c,e,M',i,S',c1,c2,c3⟩:=ib y l;exact⟨c,e,M',i,S',c1,c2,(⟨l,(dR.refl l).tr,b3,b4⟩:dR M _ h S o p M h S j Y).trans f c3⟩
  ·exists y) z (dR.refl a.f) K
 refine⟨c,e,M',i,S',?_,Q,L.trans f W⟩;simp only[Ev.g7,J,Ev.ao];exact N
theorem yi(Z:rY P P' w b):∀(n:Nat) {fr:Fr}{g:Fl}{ah:Fr}{M B:X9}{h:Hh}{S:X9}{aj:Ev.Fr},fP (λaq=>bu P t aq) (λaq=>exs P w b aq) n fr=.ok g ah->aY M B h S fr aj->
  ∃g' bP M' h' S',Ev.fP (λaq h2=>Ev.bu P' t aq h2) (λaq h2=>Ev.exs P' w b aq h2) n aj h=.ok (g',bP) h'/\jS h' S' g g'/\dR M B h S fr aj M' h' S' ah bP
 |0,_,_,_,_,_,_,_,_,z,_=>by cases z
 |n+1,fr,g,ah,M,B,h,S,aj,z,f=>by
  replace z:=ai z;obtain⟨k,aq,F,z⟩:=z;obtain⟨G,S1,c,i⟩:=gA HP t F f;cases k with
  |false=>
   cases z;refine⟨.nx,aj,M,G,S1,?_,rfl,i.s⟩;simp only[Ev.fP,c,Ev.ao];rw[Yl (by decide)]
  |true=>
   replace z:=ai z;obtain⟨p,I,H,z⟩:=z;obtain⟨g',A,M2,h2,S2,d,a,j⟩:=Z H i.f;have e:=i.s.trans f j;cases p with
   |nx=>
    subst a;obtain⟨l,GL,M3,o,S3,q,r,y⟩:=yi Z n z j.f;refine⟨l,GL,M3,o,S3,?_,r,e.trans f y⟩;simp only[Ev.fP,c,Ev.ao,Z2,d];exact q
   |ct=>
    subst a;obtain⟨l,GL,M3,o,S3,q,r,y⟩:=yi Z n z j.f;refine⟨l,GL,M3,o,S3,?_,r,e.trans f y⟩;simp only[Ev.fP,c,Ev.ao,Z2,d];exact q
   |bk=>
    subst a;cases z;refine⟨.nx,A,M2,h2,S2,?_,rfl,e⟩;simp only[Ev.fP,c,Ev.ao,Z2,d]
   |ret x=>
    obtain⟨C,rfl,a⟩:=a;cases z;refine⟨.ret C,A,M2,h2,S2,?_,⟨C,rfl,a⟩,e⟩;simp only[Ev.fP,c,Ev.ao,Z2,d]
def Py(I:rY P P' w a)(Z:rY P P' w b):oJ P P' w (.iff t a b):=λ{fr g ah M B h S aj} z f=>by
 replace z:=ai z;obtain⟨k,r,q,z⟩:=z;obtain⟨y,S1,p,c⟩:=gA HP t q f;cases k with
 |true=>
  obtain⟨d,e,M',i,S',j,l,o⟩:=I z c.f;exact⟨d,e,M',i,S',by simp only[Ev.g7,p,Ev.ao,Z2,j],l,c.s.trans f o⟩
 |false=>
  obtain⟨d,e,M',i,S',j,l,o⟩:=Z z c.f;exact⟨d,e,M',i,S',by simp only[Ev.g7,p,Ev.ao];exact j,l,c.s.trans f o⟩
def yj(P':Ev.aE):Prop:=∀f ds h d h',P' (f+Ev.xo) ds h=.ok d h'->P' f ds h=.bad
def Sb(Z:yj P'):oJ P P' w (.tr g kk es):=λ{fr _ ah M B h S aj} z f=>by
 replace z:=ai z;obtain⟨H,I,C,z⟩:=z;obtain⟨ds,J,S1,l,r,b⟩:=oH HP es C f;split at z
 case isFalse=>exists z
 split at z
 .rename_i v F y
  exists z
  obtain⟨d,i,S2,e,p,j⟩:=qK HP y b.f r;by_cases o:kk=1002
  .exact⟨.ret (.bl false),aj,M,i,S2,by simp only[Ev.g7,l,Ev.ao,e,Ev.tryD,Ev.HN,gV o],⟨_,rfl,by simp only[OQ,gV o];rfl⟩,(b.trans j).s⟩
  .exact⟨.ret d,aj,M,i,S2,by simp only[Ev.g7,l,Ev.ao,e,Ev.tryD,Ev.HN,Yl o],⟨d,rfl,by simp only[OQ,Yl o];exact p⟩,(b.trans j).s⟩
 .replace z:=ai z;obtain⟨c,F,G,z⟩:=z;replace z:=aJ z;obtain⟨z,rfl⟩:=z;obtain⟨d,i,S2,e,p,j⟩:=qK HP G b.f r;have A:=Z _ _ _ _ _ e;cases c with
  |int c=>
   subst p;simp only[BO]at z;split at z
   .rename_i a;split at z
    case isFalse=>exists z
    rename_i q;cases z;refine⟨.ret (.bl true),aj,M,i,S2,?_,⟨_,rfl,by simp[Rep]⟩,(b.trans j).s⟩;simp only[Ev.g7,l,Ev.ao,e,A,Ev.tryD,Ev.Bj];rw[gV a,gV q];rfl
   rename_i a;split at z
   case isFalse=>exists z
   rename_i q
   exists z
   refine⟨.ret (.tup [.str [114,101,102,117,115,101,100],.int c]),aj,M,i,S2,?_,⟨_,rfl,?_⟩,(b.trans j).s⟩
   .simp only[Ev.g7,l,Ev.ao,e,A,Ev.tryD,Ev.Bj];rw[Yl a];rw[gV q];rfl
   simp[Rep,au]
  |_=>exists z
mutual
theorem IG(I:yj P'):∀s:S,oJ P P' w s
 |.set _ _=>K4 HP
 |.dput _ _ _=>λz _=>by simp only[ex]at z;cases z
 |.j0 _ _=>λz _=>by simp only[ex]at z;cases z
 |.gT _ _ _ _=>K3 HP
 |.exp _=>Pu HP
 |.ret _=>Pw HP
 |.iff _ a b=>Py HP (l9 I a) (l9 I b)
 |.for _ _ b=>Px HP (l9 I b)
 |.tr _ _ _=>Sb HP I
 |.lX _ b=>λz f=>by
  simp only[ex]at z;obtain⟨c,d,M',e,S',g,h,i⟩:=yi HP (l9 I b) w z f;exact⟨c,d,M',e,S',by simp only[Ev.g7];exact g,h,i⟩
 |.eG _=>λz _=>by simp only[ex]at z;cases z
theorem l9(I:yj P'):∀s:Ss,rY P P' w s
 |.nil=>λz f=>by simp only[exs]at z;cases z;exact⟨.nx,_,_,_,_,by simp only[Ev.exs],rfl,.refl f⟩
 |.cons s h=>λz f=>by
  simp only[exs]at z;replace z:=ai z;obtain⟨p,A,i,z⟩:=z;obtain⟨B,d,M2,e,S2,c,a,b⟩:=IG I s i f;cases p with
  |nx=>
   simp only[jS]at a;subst a;simp only at z;obtain⟨j,l,M3,o,S3,q,r,y⟩:=l9 I h z b.f;exact⟨j,l,M3,o,S3,by simp only[Ev.exs,c,Ev.ao,q],r,b.trans f y⟩
  |ct=>
   simp only[jS]at a;subst a;simp only at z;cases z;exact⟨.ct,d,M2,e,S2,by simp only[Ev.exs,c,Ev.ao],rfl,b⟩
  |bk=>
   simp only[jS]at a;subst a;simp only at z;cases z;exact⟨.bk,d,M2,e,S2,by simp only[Ev.exs,c,Ev.ao],rfl,b⟩
  |ret x=>
   simp only[jS]at a;obtain⟨g,rfl,a⟩:=a;simp only at z;cases z;exact⟨.ret g,d,M2,e,S2,by simp only[Ev.exs,c,Ev.ao],⟨g,rfl,a⟩,b⟩
end
end
structure lK(M:X9)(h h':Hh):Prop where
 len:h.length<=h'.length
 keep:∀m,m<h.length->¬ M m->h'[m]?=h[m]?
inductive ur(c:Nat)(M:X9)(h:Hh)(r:Ev.XR):Prop
 |mk (h':Hh) (e:r=some (c,h')) (k:lK M h h'):ur c M h r
def sd(X:di)(z:Ev.di):Prop:=∀f sl c,X f sl=some c->∀(h:Hh) (S B:X9) (ds:T1),aY B B h S (sl.map some) (ds.map some)->ur c B h (z f ds h)
def lK.after{S I:X9}(o:dR M B h S fr aj M1 h1 I ah bP)(r:lK M1 h1 h2):lK M h h2:=⟨ZL o.tr.len r.len,λm a b=>by
 rw[r.keep m (Uv a o.tr.len) (λz=>by
  rcases o.tr.qM m z with z|z
  .exact b z
  .lia),o.tr.keep m a b]
 ⟩
section
variable{P:aE}{P':Ev.aE}{X:di}{X':Ev.di}{w:Nat}(HP:pH P P')(HE:yj P')(HX:sd X X')(HB:∀f ds h r,X' f ds h=some r->P' f ds h=.bad)
include HP HX HB
mutual
theorem sq:∀(e:E) {fr:Fr}{c:Nat}{M B:X9}{h:Hh}{S:X9}{aj:Ev.Fr},xe P X e fr=some c->aY M B h S fr aj->ur c M h (Ev.xe P' X' e aj h)
 |.cl g es,fr,c,M,B,h,S,aj,z,f=>by
  simp only[xe]at z;simp only[Ev.xe];split at z
  .rename_i C F y;obtain⟨ds,i,S1,j,l,b⟩:=oH HP es y f;rw[j];unfold BP at z;split at z
   case isFalse=>cases z
   rename_i nd;rw[Zz]at z;obtain⟨G,o,p⟩:=z;obtain⟨d,a,k⟩:=HX _ _ _ p i S1 _ ds (Ao b.f nd o l);exact⟨d,a,lK.after b.s ⟨k.len,λm q A=>k.keep m q λz=>A (LB.m b.f m z)
    ⟩⟩
  .obtain⟨d,a,k⟩:=yk es z f;rw[Ev.CW HB es a];exact⟨d,a,k⟩
 |.ix _ _,_,_,_,_,_,_,_,z,_=>nomatch z|.me _ _ _,_,_,_,_,_,_,_,z,_=>nomatch z
 |.tup _,_,_,_,_,_,_,_,z,_=>nomatch z|.comp _ _ _ _,_,_,_,_,_,_,_,z,_=>nomatch z|.iU _,_,_,_,_,_,_,_,z,_=>nomatch z
 |.c _,_,_,_,_,_,_,_,z,_=>nomatch z|.v _,_,_,_,_,_,_,_,z,_=>nomatch z|.lst _,_,_,_,_,_,_,_,z,_=>nomatch z
 |.bin _ _ _,_,_,_,_,_,_,_,z,_=>nomatch z|.cmp _ _ _,_,_,_,_,_,_,_,z,_=>nomatch z
 |.nt _,_,_,_,_,_,_,_,z,_=>nomatch z|.neg _,_,_,_,_,_,_,_,z,_=>nomatch z|.an _ _,_,_,_,_,_,_,_,z,_=>nomatch z|.orr _ _,_,_,_,_,_,_,_,z,_=>nomatch z|.iT _ _ _,_,_,_,_,_,_,_,z,_=>nomatch z
 |.sl _ _ _,_,_,_,_,_,_,_,z,_=>nomatch z
 |.bi _ _,_,_,_,_,_,_,_,z,_=>nomatch z
 |.gZ _,_,_,_,_,_,_,_,z,_=>nomatch z
 |.gf,_,_,_,_,_,_,_,z,_=>nomatch z|.jP _ _,_,_,_,_,_,_,_,z,_=>nomatch z|.jQ _ _ _,_,_,_,_,_,_,_,z,_=>nomatch z
theorem yk:∀(es:Es) {fr:Fr}{c:Nat}{M B:X9}{h:Hh}{S:X9}{aj:Ev.Fr},xV P X es fr=some c->aY M B h S fr aj->ur c M h (Ev.xa P' X' es aj h)
 |.nil,_,_,_,_,_,_,_,z,_=>nomatch z
 |.cons e es,fr,c,M,B,h,S,aj,z,f=>by
  simp only[xV]at z;simp only[Ev.xa];split at z
  .rename_i i a;cases e with
   |v j=>
    simp only[ig]at a;split at a
    case isFalse=>cases a
    rename_i q;cases a;obtain⟨s,A⟩:=gN q;obtain⟨n,ds,l,o,k1,k2,k3,F,G⟩:=jx A f;simp only[Ev.ev,k2,Option.join,Option.bind,id,Ev.dB];exact yk es z f
   |_=>cases a
  .split at z
   .rename_i y;obtain⟨d,H,S1,C,I,p⟩:=aX HP e y f;rw[C];obtain⟨g,b,k⟩:=yk es z p.f;exact⟨g,b,lK.after p.s k⟩
   .obtain⟨g,b,k⟩:=sq e z f;rw[(Ev.g8 HB e b).1];exact⟨g,b,k⟩
end
include HE
mutual
theorem Sd:∀(s:S) {fr:Fr}{c:Nat}{M B:X9}{h:Hh}{S:X9}{aj:Ev.Fr},xs P X w s fr=some c->aY M B h S fr aj->ur c M h (Ev.xs P' X' w s aj h)
 |.eG c,fr,_,M,B,h,S,aj,z,f=>by
  simp only[xs]at z;split at z
  case isFalse=>cases z
  rename_i l;cases z;exact⟨h,gV l,Zw _,λ_ _ _=>rfl
   ⟩
 |.set i e,fr,c,M,B,h,S,aj,z,f=>by
  simp only[xs]at z;simp only[Ev.xs];exact sq HP HX HB e z f
 |.exp e,fr,c,M,B,h,S,aj,z,f=>by
  simp only[xs]at z;simp only[Ev.xs];exact sq HP HX HB e z f
 |.ret e,fr,c,M,B,h,S,aj,z,f=>by
  simp only[xs]at z;simp only[Ev.xs];obtain⟨M1,S1,o⟩:=f.gW;obtain⟨g,d,k⟩:=sq HP HX HB e z o.f;exact⟨g,d,lK.after o k⟩
 |.iff t a b,fr,c,M,B,h,S,aj,z,f=>by
  simp only[xs]at z;simp only[Ev.xs];split at z
  .rename_i k q y;obtain⟨r,S1,p,j⟩:=gA HP t y f;rw[p];cases k with
   |true=>
    obtain⟨g,d,k⟩:=sy a (by simpa using z) j.f;exact⟨g,by simpa using d,lK.after j.s k⟩
   |false=>
    obtain⟨g,d,k⟩:=sy b (by simpa using z) j.f;exact⟨g,by simpa using d,lK.after j.s k⟩
  .obtain⟨g,d,k⟩:=sq HP HX HB t z f;rw[(Ev.g8 HB t d).2];exact⟨g,d,k⟩
 |.for _ _ _,_,_,_,_,_,_,_,z,_=>nomatch z|.lX _ _,_,_,_,_,_,_,_,z,_=>nomatch z
 |.dput _ _ _,_,_,_,_,_,_,_,z,_=>nomatch z
 |.j0 _ _,_,_,_,_,_,_,_,z,_=>nomatch z|.gT _ _ _ _,_,_,_,_,_,_,_,z,_=>nomatch z
 |.tr _ _ _,_,_,_,_,_,_,_,z,_=>nomatch z
theorem sy:∀(s:Ss) {fr:Fr}{c:Nat}{M B:X9}{h:Hh}{S:X9}{aj:Ev.Fr},xss P X w s fr=some c->aY M B h S fr aj->ur c M h (Ev.xss P' X' w s aj h)
 |.nil,_,_,_,_,_,_,_,z,_=>nomatch z
 |.cons s ss,fr,c,M,B,h,S,aj,z,f=>by
  simp only[xss]at z;simp only[Ev.xss];split at z
  .rename_i y;obtain⟨gl,i,M2,j,S2,g,d,e⟩:=IG HP HE s y f;simp only[jS]at d;subst d;rw[g];obtain⟨b,a,k⟩:=sy ss z e.f;exact⟨b,a,lK.after e k⟩
  .cases z
  .obtain⟨b,a,k⟩:=Sd s z f;rw[Ev.nU HB s a];exact⟨b,a,k⟩
end
end
def Au{s s':Sl}{m:Nat}{es:T1}{h':Hh}(k1:h'[m]?=some (oO s' es)):h'[m]?=some (oO s es):=k1
theorem uu{S:X9}:∀{sl:List Sl}{ds:T1}{cs:Fr},sl.length=ds.length->
  (∀(a:Nat) s d,sl[a]?=some s->ds[a]?=some d->nj B B h0 S0 (some s) (some d)/\locked cs a=Am (some s)/\(Am (some s)=true->∃m es l s',d=.ref m/\h[m]?=some (oO s es)/\au h S l es/\cs[a]?=some (some s')/\s'.out=some l))->lG h S sl ds ((cs.take sl.length).filterMap λo=>o.bind Sl.out)
 |[],ds,cs,_,_=>by simp[lG]
 |s :: sl,[],cs,hl,_=>by simp at hl
 |s :: sl,d :: ds,[],hl,q=>by
  have f:=uu (h:=h) (S:=S) (cs:=[]) (by simpa using hl) λa s' j p r=>by
   obtain⟨c,g,b⟩:=q (a+1) s' j (by simpa using p) (by simpa using r);exact⟨c,by simpa[locked]using g,λz=>by obtain⟨_,_,_,_,_,_,_,y,_⟩:=b z;simp at y⟩
  obtain⟨c,g,b⟩:=q 0 s d (by simp) (by simp);cases s with
  |val v=>simp at f ⊢;exact⟨d,ds,rfl,f⟩
  |own l=>exact absurd c (by rintro⟨m,es,e,q,_⟩;exact q.2 q.1)
  |bor l=>obtain⟨_,_,_,_,_,_,_,y,_⟩:=b rfl;simp at y
  |ro l=>obtain⟨_,_,_,_,_,_,_,y,_⟩:=b rfl;simp at y
 |s :: sl,d :: ds,o :: cs,hl,q=>by
  have f:=uu (by simpa using hl) λa s' j p r=>by
   obtain⟨c,g,b⟩:=q (a+1) s' j (by simpa using p) (by simpa using r);exact⟨c,by simpa[locked]using g,λz=>by simpa using b z⟩
  obtain⟨c,g,b⟩:=q 0 s d (by simp) (by simp);cases s with
  |val v=>
   have:o.bind Sl.out=none:=by
    rcases o with _|s
    .rfl
    .cases s<;>first|rfl|cases g
   simp only[ZH,aau,ZZ,this];exact⟨d,ds,rfl,f⟩
  |own l=>exact absurd c (by rintro⟨m,es,e,q,_⟩;exact q.2 q.1)
  |bor l=>
   obtain⟨m,es,A,s',C,F,G,i,H⟩:=b rfl;simp at i;subst i;simp only[ZH,aau,ZZ,Option.bind,H];exact⟨d,ds,A,_,m,es,rfl,rfl,C,F,G,f⟩
  |ro l=>
   obtain⟨m,es,A,s',C,F,G,i,H⟩:=b rfl;simp at i;subst i;simp only[ZH,aau,ZZ,Option.bind,H];exact⟨d,ds,A,_,m,es,rfl,rfl,C,F,G,f⟩
def D7{S:X9}(Z:aY B B h S (sl.map some) (ds.map some))(I:sl.length=ds.length):aY B B h S (cW fn sl) (Ev.cW fn ds):=by
 unfold cW Ev.cW;have d:∀(i:Nat) o,(sl.map some++List.replicate (fn.ns - fn.np) none)[i]?=some o->(sl.map some)[i]?=some o\/(sl.length<=i/\o=none):=λi o y=>by
  by_cases a:i<sl.length
  .rw[oW (by simpa using a)]at y;exact .inl y
  .rw[ZY (by simpa using a)]at y;have:=ZA y;exact .inr ⟨by lia,(List.mem_replicate.mp this).2⟩
 have e:∀(i:Nat) p,i<sl.length->(ds.map some++List.replicate (fn.ns - fn.np) none)[i]?=some p->(ds.map some)[i]?=some p:=λi p a y=>by
  rw[oW (by simpa[<-I]using a)]at y;exact y
 refine⟨Z.wS,Z.wM,Z.wB,by simp[I],λi o p b c=>?_,λi j o f m b c g l r z=>?_⟩
 .rcases d i o b with b|⟨a,rfl⟩
  .have a:i<sl.length:=by have:=(gL b).1;simpa using this
   exact Z.sl i o p b (e i p a c)
  .rw[ZY (by simpa[<-I]using a)]at c;have:=ZA c;exact(List.mem_replicate.mp this).2
 .rcases d i o b with b|⟨a,rfl⟩
  .rcases d j f c with c|⟨q,rfl⟩
   .have a:i<sl.length:=by have:=(gL b).1;simpa using this
    have q:j<sl.length:=by have:=(gL c).1;simpa using this
    exact Z.inj i j o f m b c g l (e i _ a r) (e j _ q z)
   ·exists l
  ·exists g
def K5(hF:F.length<=Ev.xo)(w n:Nat):yj (Ev.run F w n):=λf ds h d a e=>by
 cases n with
 |zero=>exists e
 |succ n=>
  rw[Ev.fy,Z7 (by lia)]at e;simp only[Ev.nv]at e;rw[gV (by lia),abK]at e;split at e
  .rename_i z;exact Ev.qw F w _ _ _ _ _ z
  ·exists e
def Pz(HX:sd X X')(e:nv X f sl=some (v,os)){S B:X9}(z:aY B B h S (sl.map some) (ds.map some)):
  ∃d h' S',Ev.nv X' f ds h=.ok d h'/\Rep h' S' v d/\Tk B h S h' S'/\lG h' S' sl ds os:=by
 unfold nv at e;split at e
 case isFalse=>exists e
 rename_i g;rw[Uw]at e;obtain⟨c,j,l⟩:=e
 exists l
 obtain⟨h',o,k⟩:=HX _ _ _ j h S B ds z;refine⟨.int c,h',S,by simp only[Ev.nv];rw[gV g.1,o],by simp[Rep],⟨k.len,k.keep,λ_ q=>q,λ_ q=>.inl q
  ⟩,?_⟩
 have a:sl.length=ds.length:=by have:=z.len;simpa using this
 have:∀{sl:List Sl} {ds:T1},sl.length=ds.length->sl.all Sl.ig=true->lG h' S sl ds []:=λ{sl}=>by
  induction sl with
  |nil=>intro ds _ _;rfl
  |cons s sl p=>
   intro ds i b;cases ds with
   |nil=>simp at i
   |cons d ds=>
    simp only[acB,yK]at b;cases s with
    |val v=>exact⟨d,ds,rfl,p (by simpa using i) b.2⟩
    |_=>cases b.1
 exact this a g.2
theorem Av(hF:F.length<=Ev.xo)(w:Nat):∀n,pH (run F w n) (Ev.run F w n)/\sd (dP F w n) (Ev.dP F w n)
 |0=>⟨λf A v os e=>(nomatch e),λf A c e=>(nomatch e)⟩
 |n+1=>by
  obtain⟨HP,HX⟩:=Av hF w n;have HE:=K5 hF w n;have Z:sd (dP F w (n+1)) (Ev.dP F w (n+1)):=λf A c e h S B ds F0=>by
   rw[iW]at e;rw[Ev.iW];cases z:F[f]? with
   |none=>rw[z]at e;cases e
   |some j=>
    rw[z]at e;simp only at e ⊢;split at e
    case isFalse=>cases e
    rename_i hl;have b:A.length=ds.length:=by have:=F0.len;simpa using this
    rw[gV (by lia)];exact sy HP HE HX (Ev.qw F w n) j.body e (D7 F0 b)
  refine⟨λf A v os e h S B ds F0=>?_,Z⟩;rw[fy]at e;cases z:F[f]? with
  |none=>
   rw[z]at e;rw[Ev.fy,z];exact Pz Z e F0
  |some j=>
  rw[z]at e;simp only at e;split at e
  case isFalse=>cases e
  rename_i hl;have b:A.length=ds.length:=by have:=F0.len;simpa using this
  have f1:aY B B h S (cW j A) (Ev.cW j ds):=D7 F0 b;have fin:∀{g:Fl} {H:Fr},exs (run F w n) w j.body (cW j A)=.ok g H->∃I K M' C S',Ev.exs (Ev.run F w n) w j.body (Ev.cW j ds) h=.ok (I,K) C/\jS C S' g I/\Tk B h S C S'/\lG C S' A ds (outs j.np H):=λ{g H} y=>by
   obtain⟨I,K,M',C,S',L,G,p⟩:=l9 HP HE j.body y f1;refine⟨I,K,M',C,S',L,G,⟨p.tr.len,λm Q M=>p.tr.keep m Q M,p.tr.sub,λm q=>?_
    ⟩,?_⟩
   .rcases p.tr.new m q with q|q|q
    .exact .inl q
    .exact .inr q
    .exact absurd q.1 q.2
   .unfold outs;rw[<-hl];refine uu (B:=B) (h0:=h) (S0:=S) b λa s d J W=>?_;have ha:a<A.length:=(gL J).1;have h0:(cW j A)[a]?=some (some s):=by unfold cW;rw[oW (by simpa using ha)];simp[J]
    have i:locked H a=Am (some s):=by rw[p.lk a];unfold locked;rw[h0]
    refine⟨F0.sl a _ _ (by simp[J]) (by simp[W]),i,λP=>?_⟩;have hr:=p.rf a (by unfold locked;rw[h0];exact P);have hd:(Ev.cW j ds)[a]?=some (some d):=by unfold Ev.cW;rw[oW (by simpa[<-b]using ha)];simp[W]
    rw[hd]at hr;cases M:H[a]? with
    |none=>unfold locked at i;rw[M]at i;rw[<-i]at P;cases P
    |some o=>
     have sr:=p.f.sl a _ _ M hr;have s0:=F0.sl a (some s) (some d) (by simp[J]) (by simp[W]);unfold locked at i;rw[M,P]at i;rcases o with _|s'
     .cases i
     .cases s' with
      |val v=>cases i
      |own l=>cases i
      |bor l=>obtain⟨m,X,e,_,k1,k2⟩:=sr;cases e;exact⟨m,X,l,_,rfl,Au (s':=.bor l)
        k1,k2,rfl,rfl⟩
      |ro l=>obtain⟨m,X,e,_,k1,k2⟩:=sr;cases e;exact⟨m,X,l,_,rfl,Au (s':=.ro l)
        k1,k2,rfl,rfl⟩
  simp only[Ev.fy,z];have N:ds.length=j.np:=by lia
  rw[gV N];split at e
  .rename_i v' H y;cases e;obtain⟨I,K,M',C,S',L,G,p,Y⟩:=fin y;simp only[jS]at G;obtain⟨d,rfl,G⟩:=G;exact⟨d,C,S',by simp only[Ev.endOf,L,Ev.ao],G,p,Y⟩
  .rename_i H y;cases e;obtain⟨I,K,M',C,S',L,G,p,Y⟩:=fin y;simp only[jS]at G;subst G;exact⟨.aU,C,S',by simp only[Ev.endOf,L,Ev.ao],rfl,p,Y⟩
  .obtain⟨rfl,l,k,rfl,J,rfl,rfl⟩:=O3 e;obtain⟨d,rfl⟩:∃d,ds=[d]:=by cases ds with|nil=>simp at b|cons d ds=>cases ds with|nil=>exact⟨d,rfl⟩|cons _ _=>simp at b
   obtain⟨d',ed,q⟩:=F0.sl 0 _ _ rfl rfl;cases ed;have r:=O2 (w:=w) (n:=n) z q J;simp only[Ev.fy,z]at r;rw[gV N]at r;refine⟨_,_,λm=>S m\/m=h.length,r,⟨h.length,rfl,.inr rfl,by simp⟩,⟨by simp,λm Q _=>by rw[oW Q],λm q=>.inl q,λm q=>?_
    ⟩,?_⟩
   .rcases q with q|rfl
    .exact .inl q
    .exact .inr ⟨Zw _,by simp⟩
   .exact⟨d,[],rfl,rfl⟩
def K6{ns:Kk}(e:run F w n f [.val (.bQ (ns.map V.int))]=some (.bl true,[]))(hF:F.length<=1000:=by decide):∃h',Ev.run F w n f [.ref 0] [.bQ (ns.map D.int)]=.ok (.bl true) h':=by
 have F0:aY (λ_=>False) (λ_=>False) [O.bQ (ns.map D.int)] (λm=>m=0) ([Sl.val (.bQ (ns.map V.int))].map some) ([D.ref 0].map some):=by
  refine⟨λm q=>⟨by subst q;simp,id,id⟩,λm q=>q.elim,λm q=>q.elim,rfl,λi o p c g=>?_,λi j o l m c g h r y z=>?_⟩
  .cases i with
   |zero=>
    simp at c g;subst c g;refine⟨.ref 0,rfl,?_⟩;exact⟨0,_,rfl,rfl,rfl,au.map (λ_=>by simp[Rep]) ns⟩
   |succ i=>simp at c
  .cases i with
   |zero=>simp at c;subst c;exists h
   |succ i=>simp at c
 obtain⟨d,h',S',a,b,_,_⟩:=(Av hF w n).1 f _ _ _ e _ _ _ _ F0;subst b;exact⟨h',a⟩
def bR(h:n<=100000):n<=big:=ZL h (by decide)
@[simp] theorem Zf:3<=big:=bR (by decide)
@[simp] theorem Zg:4<=big:=bR (by decide)
section
variable{i j:Int}{a b:Ξ}{x y:T2}{d e:V}{m n:Nat}{k l:Bool}
def cU(h:x.length<=big):dX x=some (.lst x):=by simp[dX,h]
def kK(h:x.length<=big):kF x=some (.tup x):=by simp[kF,h]
@[simp] theorem gO:dX []=some (.lst []):=cU (bR (by simp))
@[simp] theorem Se:kF []=some (.tup []):=kK (bR (by simp))
@[simp] theorem Sf{a}:dX [a]=some (.lst [a]):=cU (bR (by simp))
@[simp] theorem sA{a}:kF [a]=some (.tup [a]):=kK (bR (by simp))
@[simp] theorem sC{a b}:dX [a,b]=some (.lst [a,b]):=cU (bR (by simp))
@[simp] theorem gP{a b}:kF [a,b]=some (.tup [a,b]):=kK (bR (by simp))
@[simp] theorem Sg{a b c}:kF [a,b,c]=some (.tup [a,b,c]):=kK (bR (by simp))
@[simp] theorem fS:bX .add (.int i) (.int j)=some (.int (i+j)):=nd rfl
def yl(h:a.length+b.length<=100000):bX .add (.str a) (.str b)=some (.str (a++b)):=by delta bX;simp[bR h]
def GN(h:x.length+y.length<=100000):bX .add (.tup x) (.tup y)=some (.tup (x++y)):=by delta bX;simp[bR h]
@[simp] theorem GO:bX .sub (.int i) (.int j)=some (.int (i - j)):=nd rfl
@[simp] theorem ym:bX .mul (.int i) (.int j)=if bZ i j then some (.int (i*j))else none:=nd rfl
def GP(h0:0<=j)(h1:j<=1000)(h2:a.length<=1000):bX .mul (.str a) (.int j)=some (.str (rep j.toNat a)):=by delta bX;simp[h0,h1,h2]
@[simp] theorem GQ:bX .fdiv (.int i) (.int j)=if 0<j/\j<1073741824 then some (.int (i / j))else none:=nd rfl
@[simp] theorem K7:bX .mod (.int i) (.int j)=if 0<j then some (.int (i % j))else none:=nd rfl
@[simp] theorem sD:cop .ne d e=(gp deep d e).map (!·):=nd rfl
@[simp] theorem D8:gp (n+1) (.int i) (.int j)=some (decide (i=j)):=by show some (i==j)=_;by_cases h:i=j<;>simp[h]
@[simp] theorem PB:gp (n+1) (.str a) (.str b)=some (decide (a=b)):=by show some (a==b)=_;by_cases h:a=b<;>simp[h]
@[simp] theorem PC:gp (n+1) (.bl k) (.bl l)=some (decide (k=l)):=by cases k<;>cases l<;>rfl
@[simp] theorem K8:gp deep (.int i) (.int j)=some (decide (i=j)):=D8
@[simp] theorem Aw:gp deep (.str a) (.str b)=some (decide (a=b)):=PB
@[simp] theorem K9:gp deep (.bl k) (.bl l)=some (decide (k=l)):=PC
@[simp] theorem Ax:gp deep (.lst x) (.lst y)=cP (gp (18+1)) x y:=nd rfl
@[simp] theorem La:cP f [] []=some true:=nd rfl
@[simp] theorem X3:cP f [] (d :: x)=some false:=nd rfl
@[simp] theorem X4:cP f (d :: x) []=some false:=nd rfl
@[simp] theorem Wg:cP f (d :: x) (e :: y)=(f d e).bind λb=>(cP f x y).bind λc=>some (b&&c):=nd rfl
theorem Ay{α:Type}[DecidableEq α]{f:V->V->Option Bool}{g:α->V}(h:∀a b,f (g a) (g b)=some (decide (a=b))):∀l m:List α,cP f (l.map g) (m.map g)=some (decide (l=m))
 |[],[]=>by simp
 |[],_ :: _=>by simp
 |_ :: _,[]=>by simp
 |a :: l,b :: m=>by simp[h,Ay h l m]
@[simp] theorem mh:eK (.str a) (.int i)=(bM a i).map λc=>.str [c]:=nd rfl
@[simp] theorem pI:eK (.lst x) (.int i)=bM x i:=nd rfl
@[simp] theorem mj:ji (.str a) lo hi=some (.str (cut a lo hi)):=nd rfl
def aaR(h:a.length<=100000):cQ .len [.str a]=some (.int a.length):=by delta cQ;simp[bR h]
@[simp] theorem pJ:cQ .len [.lst x]=some (.int x.length):=nd rfl
@[simp] theorem Az:cQ .len [.bQ x]=some (.int x.length):=nd rfl
@[simp] theorem AA:cQ .all [.lst x]=(boolsOf x).map λbs=>.bl (bs.all id):=nd rfl
@[simp] theorem Lb:cQ .sum [.lst x]=(intsOf x).map λis=>.int is.sum:=nd rfl
@[simp] theorem D9:cQ .min [.int i,.int j]=some (.int (if j<i then j else i)):=nd rfl
@[simp] theorem uv:toT (.lst x)=kF x:=nd rfl
def PD(h0:0<=j)(h1:j<=100000):fO [.int j]=some (range 0 j.toNat):=by
 simp only[fO];rw[gV ⟨by lia,by lia⟩]
def sE{α:Type}(g:α->Int)(l:List α):intsOf (l.map λx=>.int (g x))=some (l.map g):=by induction l<;>simp[intsOf, *]
def sF{α:Type}(g:α->Ξ)(l:List α):strsOf (l.map λx=>.str (g x))=some (l.map g):=by induction l<;>simp[strsOf, *]
theorem vH:∀l:Δ,cE [] l=l.flatten
 |[]=>rfl
 |[s]=>by simp[cE]
 |s :: t :: r=>by simp[cE,vH (t :: r)]
@[simp] theorem X5:truthy (.bl k)=k:=nd rfl
@[simp] theorem Wz:truthy (.lst x) = !x.isEmpty:=nd rfl
def BU{l:Δ}(h:l.flatten.length<=100000):fK .join (.str []) [.lst (l.map V.str)]=some (.str l.flatten):=by
 have f:=sF (λx=>x) l;have:(l.map (·.length)).sum<=big:=bR (by rw[<-List.length_flatten];exact h);have c:strsOf (l.map V.str)=some l:=by simpa using sF (λx=>x) l
 delta fK;simp[oq,c,vH,this]
end
def iM{α:Type}(e:α->V)(g:α->V)(l:List α)(h:∀a∈l,f (e a)=some (some (g a))):cI f (l.map e)=some (l.map g):=by
 induction l with
 |nil=>rfl
 |cons a l b=>simp only[WL,cI,h a (by simp),b λu c=>h u (by simp[c]),Option.bind];rfl
def oM{α:Type}(e:α->V)(p:α->Bool)(g:α->V)(l:List α)(h:∀a∈l,f (e a)=some (if p a then some (g a)else none)):cI f (l.map e)=some ((l.filter p).map g):=by
 induction l with
 |nil=>rfl
 |cons a l b=>
  simp only[WL,cI,h a (by simp),b λu c=>h u (by simp[c]),Option.bind];cases z:p a<;>simp[z]
def Wp{α:Type}(r:R α)(Q:α->Fr->Prop):Prop:=∃a h,r=.ok a h/\Q a h
section
variable{α β:Type}{Q Q':α->Fr->Prop}
@[simp] theorem sG(a:α)(h:Fr):Wp (.ok a h) Q=Q a h:=propext ⟨λ⟨_,_,e,q⟩=>by exists e;exact q,λq=>⟨_,_,rfl,q⟩⟩
@[simp] theorem X6:Wp (.bad:R α) Q=False:=propext ⟨λq=>(by obtain⟨_,_,e,_⟩:=q;exists e),False.elim⟩
@[simp] theorem wp_bind(r:R β)(f:β->Fr->R α):Wp (r.bind f) Q=Wp r λa h=>Wp (f a h) Q:=by cases r<;>simp
def Wp.mono(h:Wp r Q)(f:∀a h,Q a h->Q' a h):Wp r Q':=by
 obtain⟨a,b,e,q⟩:=h;exact⟨a,b,e,f a b q⟩
end
def fl(I Q:Fr->Prop)(X:V->Fr->Prop):Fl->Fr->Prop
 |.nx,fr=>I fr
 |.ct,fr=>I fr
 |.bk,fr=>Q fr
 |.ret v,fr=>X v fr
section
variable{I J:Fr->Prop}{X:V->Fr->Prop}{fr:Fr}
@[simp] theorem kX:fl I J X .nx fr=I fr:=nd rfl
end
theorem jy{α:Type}{e:α->V}(I:List α->List α->Fr->Prop)(z:∀p a l fr,I p (a :: l) fr->Wp (f (e a) fr) (fl (I (p++[a]) l) (Q .nx) λv=>Q (.ret v)))(fin:∀p fr,I p [] fr->Q .nx fr):∀(l p:List α) (fr:Fr),I p l fr->Wp (forL f (l.map e) fr) Q
 |[],p,fr,i=>by simp only[aa7,forL,sG];exact fin p fr i
 |a :: l,p,fr,i=>by
  simp only[WL,forL,wp_bind];refine(z p a l fr i).mono λg b q=>?_;cases g with
  |nx=>exact jy I z fin l _ b q
  |ct=>exact jy I z fin l _ b q
  |bk=>exact(sG _ _).mpr q
  |ret x=>exact(sG _ _).mpr q
def Lc(I:Nat->Fr->Prop)(Z:∀(k:Nat) fr,k<N->I k fr->Wp (f (.int (lo+(k:Nat))) fr) (fl (I (k+1)) (Q .nx) λv=>Q (.ret v)))(fin:∀fr,I N fr->Q .nx fr)(i:I 0 fr):Wp (forL f (range lo N) fr) Q:=by
 have h:=jy (λp l fr=>∃k,k<=N/\p=List.range k/\p++l=List.range N/\I k fr)
  (λp a l fr ⟨k,e,d,c,q⟩=>by
   subst d;have b:=ZJ List.length c;simp at b;have j:a=k:=by
    have:=ZJ (·[k]?) c;rw[abG (by lia)]at this;simpa using this
   subst j;refine(Z a fr (by lia) q).mono λg o z=>?_;cases g with
   |nx=>exact⟨a+1,by lia,by simp[aaG],by simpa using c,z⟩
   |ct=>exact⟨a+1,by lia,by simp[aaG],by simpa using c,z⟩
   |bk=>exact z
   |ret x=>exact z)
  (λp fr ⟨k,e,d,c,q⟩=>by
   subst d;have b:=ZJ List.length c;simp at b;subst b;exact fin fr q) (List.range N) [] fr ⟨0,aas _,rfl,by simp,i⟩
 exact h
theorem sH{t:Fr->R Bool}{f:Fr->R Fl}{Q:Fl->Fr->Prop}(I:Nat->Fr->Prop)(Z:∀k fr,I k fr->Wp (t fr) λb ah=>if b then Wp (f ah) (fl (λaq=>∃j,j<k/\I j aq) (Q .nx) λv=>Q (.ret v))else Q .nx ah):∀(n k:Nat) (fr:Fr),k<n->I k fr->Wp (fP t f n fr) Q
 |0,k,fr,hk,_=>by lia
 |n+1,k,fr,hk,i=>by
  simp only[fP,wp_bind];refine(Z k fr i).mono λb ah q=>?_;cases b with
  |false=>simpa using q
  |true=>
   simp only[Z2,wp_bind]at q ⊢;refine q.mono λg aq z=>?_;cases g with
   |nx=>obtain⟨j,a,z⟩:=z;exact sH I Z n j aq (by lia) z
   |ct=>obtain⟨j,a,z⟩:=z;exact sH I Z n j aq (by lia) z
   |bk=>exact(sG _ _).mpr z
   |ret x=>exact(sG _ _).mpr z
def fin(fn:Fn)(ds:List Sl):R Fl->Option (V×List (T2))
 |.ok (.ret v) fr=>some (v,outs fn.np fr)
 |.ok .nx fr=>some (.aU,outs fn.np fr)
 |_=>oz fn ds
@[simp] theorem Ld:fin fn ds (.ok (.ret v) fr)=some (v,outs fn.np fr):=nd rfl
def run_eq(z:F[f]?=some fn)(I:ds.length=fn.np):run F w (n+1) f ds=fin fn ds (exs (run F w n) w fn.body (cW fn ds)):=by
 simp only[fy,z,I,Z2];cases exs (run F w n) w fn.body (cW fn ds)with
 |bad=>rfl
 |ok g a=>cases g<;>rfl
def cC(z:F[f]?=some fn)(I:ds.length=fn.np)(q:Wp (exs (run F w n) w fn.body (cW fn ds)) λg fr=>g=.ret v/\outs fn.np fr=os):run F w (n+1) f ds=some (v,os):=by
 rw[run_eq z I];obtain⟨g,fr,e,rfl,rfl⟩:=q;rw[e];rfl
section
variable{P:aE}{w:Nat}{fr:Fr}{k:Bool}{a b c:E}{es:Es}{ss sa sb:Ss}{st:S}{lo hi:Eo}{it:It}
@[simp] theorem Wh:ev P k (.c d) fr=R.of (ofD d) fr:=nd rfl
@[simp] theorem Wi:ev P k (.v i) fr=R.of (mX k fr i) fr:=nd rfl
@[simp] theorem PF:ev P k (.tup es) fr=(bY P false es fr).bind λds ah=>R.of (kF ds) ah:=nd rfl
@[simp] theorem PJ:ev P k (.lst es) fr=(bY P false es fr).bind λds ah=>R.of (dX ds) ah:=nd rfl
@[simp] theorem PK:ev P k (.bin o a b) fr=(ev P (kf a (aF b)) a fr).bind λx ah=>(ev P true b ah).bind λy aq=>R.of (bX o x y) aq:=nd rfl
@[simp] theorem PL:ev P k (.cmp o a b) fr=(ev P (kf a (aF b)) a fr).bind λx ah=>(ev P true b ah).bind λy aq=>R.of ((cop o x y).map .bl) aq:=nd rfl
def Zq:V->Fr->R V:=λx d=>match x with
 |.bl b=>.ok (.bl (!b)) d
 |_=>.bad
def Wj:V->Fr->R V:=λx d=>match x with
 |.int i=>.ok (.int (-i)) d
 |_=>.bad
@[simp] theorem PM:ev P k (.neg a) fr=(ev P true a fr).bind Wj:=nd rfl
def Uh(r:Fr->R V):V->Fr->R V:=λx d=>match x with
 |.bl true=>r d
 |.bl false=>.ok (.bl false) d
 |_=>.bad
@[simp] theorem yo:Uh r (.bl k) fr=if k then r fr else .ok (.bl false) fr:=by cases k<;>rfl
@[simp] theorem BV:ev P k (.an a b) fr=(ev P true a fr).bind (Uh λh1=>ev P k b h1):=nd rfl
@[simp] theorem PN:ev P k (.iT a b c) fr=(bu P a fr).bind λt ah=>if t then ev P k b ah else ev P k c ah:=nd rfl
def PR:ev P k (.jP a b) fr=(ev P (kf a (aF b)) a fr).bind λx ah=>(ev P true b ah).bind λy aq=>R.of (uh x y) aq:=nd rfl
def PU:ev P k (.jQ a b c) fr=(ev P (kf a (aF b++aF c)) a fr).bind λx ah=>(ev P (kf b (aF c)) b ah).bind λy aq=>(ev P false c aq).bind λz bB=>R.of (qJ x y z) bB:=nd rfl
@[simp] theorem Sh:ev P k (.ix a b) fr=(ev P (kf a (aF b)) a fr).bind λx ah=>(ev P true b ah).bind λy aq=>R.of (eK x y) aq:=nd rfl
@[simp] theorem Si:ev P k (.sl a lo hi) fr=(ev P (kf a (jb lo++jb hi)) a fr).bind λx ah=>(iV P lo ah).bind λl aq=>(iV P hi aq).bind λu bB=>R.of (ji x l u) bB:=nd rfl
@[simp] theorem Sj:ev P k (.cl f es) fr=(eL P es fr).bind λas ah=>cz P f as ah:=nd rfl
@[simp] theorem Sk:ev P k (.bi g es) fr=(bY P true es fr).bind λds ah=>R.of (cQ g ds) ah:=nd rfl
def GR(m:ME)(i:Nat):List V->Fr->R V:=λds d=>match d[i]? with
 |some (some (.own l))=>match kW m l ds with
  |some (v,l')=>.ok v (d.set i (some (.own l')))
  |none=>.bad
 |some (some (.bor l))=>match kW m l ds with
  |some (v,l')=>.ok v (d.set i (some (.bor l')))
  |none=>.bad
 |_=>.bad
def PV(I:jG m=true):ev P k (.me m (.v i) es) fr=if (lent fr i).isSome then (bY P (DO m) es fr).bind (GR m i)else .bad:=by
 rw[ev,gV I];unfold ig;cases z:(lent fr i).isSome<;>simp[z]<;>rfl
def PX(z:jG m=false):ev P k (.me m a es) fr=(ev P (kf a (dD es)) a fr).bind λx ah=>(bY P true es ah).bind λds aq=>R.of (fK m x ds) aq:=by rw[ev,z];rfl
def kY(P:aE)(elt:E)(t:T)(cond:Eo)(fr:Fr):V->Option (Option V):=λd=>match bD t d (vF fr)with
 |none=>none
 |some e=>match kR P cond e with
  |.ok c _=>if c then (match ev P false elt e with|.ok x _=>some (some x)|.bad=>none)else some none
  |.bad=>none
@[simp] theorem t6{cond:Eo}:ev P k (.comp elt t it cond) fr=(cL P true it fr).bind λs ah=>if undef t ah then R.of ((cI (kY P elt t cond ah) s).bind dX) ah else .bad:=nd rfl
@[simp] theorem PY:ev P k (.gZ it) fr=(cL P true it fr).bind λs ah=>R.of (dX s) ah:=nd rfl
@[simp] theorem PZ:ev P k (.iU a) fr=(ev P true a fr).bind λx ah=>R.of (toT x) ah:=nd rfl
@[simp] theorem Le:bY P k .nil fr=.ok [] fr:=nd rfl
@[simp] theorem GS:bY P k (.cons a es) fr=(ev P (k&&kf a (dD es)) a fr).bind λd ah=>(bY P k es ah).bind λds aq=>.ok (d :: ds) aq:=nd rfl
@[simp] theorem Lf:eL P .nil fr=.ok [] fr:=nd rfl
def BW(P:aE)(a:E)(es:Es)(fr:Fr):Option Nat->R (List (Nat ⊕ V))
 |some i=>(eL P es fr).bind λr e=>.ok (.inl i :: r) e
 |none=>(ev P false a fr).bind λd e=>(eL P es e).bind λr f=>.ok (.inr d :: r) f
@[simp] theorem BX:BW P a es fr (some i)=(eL P es fr).bind λr ah=>.ok (.inl i :: r) ah:=nd rfl
@[simp] theorem BY:BW P a es fr none=(ev P false a fr).bind λd ah=>(eL P es ah).bind λr aq=>.ok (.inr d :: r) aq:=nd rfl
@[simp] theorem yp:eL P (.cons a es) fr=BW P a es fr (ig fr a):=by rw[eL];cases ig fr a<;>rfl
@[simp] theorem P0:iV P .no fr=.ok none fr:=nd rfl
@[simp] theorem Lh:iV P (.yes a) fr=(ev P true a fr).bind λd ah=>R.of ((intOf d).map some) ah:=nd rfl
@[simp] theorem P1:kR P .no fr=.ok true fr:=nd rfl
@[simp] theorem Li:kR P (.yes a) fr=bu P a fr:=nd rfl
@[simp] theorem Ea:bu P (.an a b) fr=(bu P a fr).bind λk ah=>if k then bu P b ah else .ok false ah:=ON
@[simp] theorem AB:bu P (.orr a b) fr=(bu P a fr).bind λk ah=>if k then .ok true ah else bu P b ah:=OO
@[simp] theorem P4:bu P (.nt a) fr=(bu P a fr).bind λk ah=>.ok (!k) ah:=OP
def P5:V->Fr->R Bool:=λx d=>.ok (truthy x) d
@[simp] theorem Lj:P5 x fr=.ok (truthy x) fr:=nd rfl
@[simp] theorem Lk:cL P k (.seq a) fr=(src k fr a (ev P k a fr)).bind λx ah=>R.of (fM x) ah:=nd rfl
@[simp] theorem Ll:cL P k (.jM es) fr=(bY P true es fr).bind λds ah=>R.of (fO ds) ah:=nd rfl
@[simp] theorem GU:cL P k (.lE a) fr=(ev P true a fr).bind λx ah=>R.of (Gy x) ah:=nd rfl
@[simp] theorem Lm:cL P k (.rev a) fr=(ev P true a fr).bind λx ah=>R.of ((BN x).map λs=>s.reverse) ah:=nd rfl
def P6(i:Nat)(ah:Fr):V->R Fl
 |.lst l=>(R.of (put ah i (.own l)) ah).bind λd _=>.ok .nx d
 |_=>.bad
@[simp] theorem GV{i:Nat}{l:T2}:P6 i fr (.lst l)=(R.of (put fr i (.own l)) fr).bind λaq _=>.ok .nx aq:=nd rfl
@[simp] theorem Eb{i:Nat}:ex P w (.set i a) fr=(ev P false a fr).bind λx ah=>if isNew a then P6 i ah x else (R.of (put ah i (.val x)) ah).bind λaq _=>.ok .nx aq:=by
 rw[ex];rfl
@[simp] theorem P7:ex P w (.exp a) fr=(ev P true a fr).bind λ_ ah=>.ok .nx ah:=by rw[ex]
@[simp] theorem P8:ex P w (.ret a) fr=(ev P false a (gM fr)).bind λx ah=>.ok (.ret x) ah:=by rw[ex]
@[simp] theorem P9:ex P w (.iff a sa sb) fr=(bu P a fr).bind λk ah=>if k then exs P w sa ah else exs P w sb ah:=by rw[ex]
def turnF(P:aE)(w:Nat)(t:T)(b:Ss):V->Fr->R Fl:=λd e=>match bD t d e with
 |some f=>exs P w b f
 |none=>.bad
@[simp] theorem C6:ex P w (.for t it ss) fr=(cL P false it (mW (itv it) fr)).bind λs ah=>forL (turnF P w t ss) s ah:=by rfl
def Ln{i x y f:Nat}:ex P w (.gT i x y f) fr=if i≠y/\x≠i/\i<fr.length/\x<fr.length then (cL P false (.seq (.v y)) (mW [y] fr)).bind λvs ah=>(R.of (kG P f vs []) ah).bind λk aq=>(R.of (put aq i (.val (.dct k))) aq).bind λbB _=>(R.of (jH bB x vs) bB).bind λiI _=>.ok .nx iI else .bad:=by rw[ex]
def Sn(P:aE)(w:Nat)(ss:Ss):Fl->Fr->R Fl:=λp d=>match p with
 |.nx=>exs P w ss d
 |p=>.ok p d
@[simp] theorem GW:exs P w (.cons st ss) fr=(ex P w st fr).bind (Sn P w ss):=by rfl
end
def jT{vs:T2}(h:P f (vs.map .val)=some (v,[])):cz P f (vs.map .inr) fr=.ok v fr:=by
 have a:∀vs:T2,bO (vs.map .inr)=[]:=λvs=>by induction vs<;>simp[bO, *]
 have b:∀vs:T2,args fr (vs.map .inr)=some (vs.map .val):=λvs=>by induction vs<;>simp[args, *]
 simp[cz,a,b,h,back]
section
variable{P:aE}{f:Nat}{fr:Fr}{a b c v:V}
def cJ(h:P f [.val a]=some (v,[])):cz P f [.inr a] fr=.ok v fr:=jT (vs:=[a]) h
def call2(h:P f [.val a,.val b]=some (v,[])):cz P f [.inr a,.inr b] fr=.ok v fr:=jT (vs:=[a,b]) h
def gq(h:P f [.val a,.val b,.val c]=some (v,[])):cz P f [.inr a,.inr b,.inr c] fr=.ok v fr:=jT (vs:=[a,b,c]) h
end
section
variable{fr:Fr}{i:Nat}{k:Bool}{s:Sl}{v:V}{l:T2}
def Zr(k:Bool):Option (Tx)->Option V
 |some (some (.val v))=>some v
 |some (some (.own l))=>if k then some (.lst l)else none
 |some (some (.bor l))=>if k then some (.lst l)else none
 |some (some (.ro l))=>if k then some (.lst l)else none
 |_=>none
@[simp] theorem So:src k fr (.v i) r=R.of (um k fr i) fr:=nd rfl
def Qa:Option (Tx)->Tx
 |some (some s)=>s.lend
 |_=>none
@[simp] theorem AD:lent fr i=Qa fr[i]?:=by unfold lent Qa;split<;>simp_all
@[simp] theorem WA:Qa (some (some (.own l)))=some (.bor l):=nd rfl
def Qc(fr:Fr)(i:Nat)(s:Sl):Option (Tx)->Option Fr
 |some (some (.bor _))=>none
 |some (some (.ro _))=>none
 |_=>some (fr.set i (some s))
@[simp] theorem Qd:put fr i s=Qc fr i s fr[i]?:=by unfold put Qc;split<;>simp_all
@[simp] theorem BZ{l:Ξ}:bD (.many l) (.tup x) fr=cR l x fr:=nd rfl
@[simp] theorem B3:cR [] [] fr=some fr:=nd rfl
@[simp] theorem zc{l:Ξ}:cR (i :: l) (v :: x) fr=(put fr i (.val v)).bind (cR l x):=nd rfl
def iN(m:ME)(i:Nat)(ds:T2)(fr:Fr):Option (Tx)->R V
 |some (some (.own l))=>match kW m l ds with
  |some (v,l')=>.ok v (fr.set i (some (.own l')))
  |none=>.bad
 |some (some (.bor l))=>match kW m l ds with
  |some (v,l')=>.ok v (fr.set i (some (.bor l')))
  |none=>.bad
 |_=>.bad
@[simp] theorem Lo:GR m i ds fr=iN m i ds fr fr[i]?:=by unfold GR iN;split<;>simp_all<;>rfl
def uw(h:l.length<100000):iN .append i [d] fr (some (some (.own l)))=.ok .aU (fr.set i (some (.own (l++[d])))):=by
 simp[iN,kW,Uv h (show 100000<=big by decide)]
def Lp(h:l.length<100000):iN .append i [d] fr (some (some (.bor l)))=.ok .aU (fr.set i (some (.bor (l++[d])))):=by
 simp[iN,kW,Uv h (show 100000<=big by decide)]
def AE(h:l.length+d.length<=100000):iN .extend i [.lst d] fr (some (some (.own l)))=.ok .aU (fr.set i (some (.own (l++d)))):=by
 simp[iN,kW,bR h]
def pK:iN .pop i [] fr (some (some (.own (l++[v]))))=.ok v (fr.set i (some (.own l))):=by
 simp[iN,kW]
def Lq:iN .pop i [] fr (some (some (.bor (l++[v]))))=.ok v (fr.set i (some (.bor l))):=by
 simp[iN,kW]
end
def vo(o:Tx):Prop:=o=none\/∃y,o=some (.val y)
theorem vo.none:vo none:=.inl rfl
theorem vo.val:vo (some (.val v)):=.inr ⟨v,rfl⟩
def Qe(h:vo b):Qc fr i s (some b)=some (fr.set i (some s)):=by rcases h with rfl|⟨y,rfl⟩<;>rfl
def jz(h:vo b):b.map Sl.gW=b:=by rcases h with rfl|⟨y,rfl⟩<;>rfl
def Sq(f:V->Fr->R Fl)(ds:T2):Fl->Fr->R Fl:=λp a=>match p with
 |.nx=>forL f ds a
 |.ct=>forL f ds a
 |.bk=>.ok .nx a
 |.ret x=>.ok (.ret x) a
section
variable{f:V->Fr->R Fl}{ds:T2}{d:V}{fr:Fr}
@[simp] theorem uY:forL f (d :: ds) fr=(f d fr).bind (Sq f ds):=nd rfl
end
section
variable{a b c:E}{es:Es}{lo hi:Eo}{it:It}
@[simp] theorem Zc{d:D}:aF (.c d)=[]:=rfl
@[simp] theorem Zd{i:Nat}:aF (.v i)=[]:=rfl
@[simp] theorem WB:aF (.tup es)=dD es:=rfl
@[simp] theorem WC:aF (.lst es)=dD es:=rfl
@[simp] theorem WD{o:bA}:aF (.bin o a b)=aF a++aF b:=rfl
@[simp] theorem WE{o:br}:aF (.cmp o a b)=aF a++aF b:=rfl
@[simp] theorem X7:aF (.nt a)=aF a:=rfl
@[simp] theorem WG:aF (.neg a)=aF a:=rfl
@[simp] theorem X8:aF (.an a b)=aF a++aF b:=rfl
@[simp] theorem WH:aF (.orr a b)=aF a++aF b:=rfl
@[simp] theorem WI:aF (.iT a b c)=aF a++(aF b++aF c):=rfl
@[simp] theorem Yb:aF (.ix a b)=aF a++aF b:=rfl
@[simp] theorem Yc:aF (.sl a lo hi)=aF a++(jb lo++jb hi):=rfl
@[simp] theorem Yd{f:Nat}:aF (.cl f es)=dD es++jO es:=rfl
@[simp] theorem Ye{f:BI}:aF (.bi f es)=dD es:=rfl
@[simp] theorem Yg{m:ME}:aF (.me m a es)=aF a++(dD es++Iu m a):=rfl
@[simp] theorem Wk{t:T}:aF (.comp a t it lo)=xU it:=rfl
@[simp] theorem WJ:aF (.gZ it)=xU it:=rfl
@[simp] theorem WK:aF (.iU a)=aF a:=rfl
end
def jU{α:Type}{l:List α}(h0:0<=i):bM l i=l[i.toNat]?:=by
 unfold bM dU;rw[gV h0];split
 .rfl
 .rw[Z7 (by lia)];rfl
@[simp] theorem zw{α:Type}{l:List α}{n:Nat}:bM l (n:Int)=l[n]?:=by rw[jU (by lia)];simp
def Qg{α:Type}{l:List α}:bM l (-1:Int)=l.getLast?:=by
 unfold bM dU;cases l with
 |nil=>rfl
 |cons a l=>
  have b:¬ 0<=-1:=by lia
  have c:-(((a :: l).length):Int)<=-1:=by simp;lia
  rw[Yl b,gV c,List.getLast?_eq_getElem?];simp only[Option.bind]
  congr 1
  lia
abbrev sI:Fn:=⟨2,2,(.cons (.iff (.cmp .eq (.v 0) (.lst .nil)) (.cons (.ret (.bin .mul (.c (.int 7)) (.v 1))) .nil) .nil) (.cons (.ret (.bin .add (.ix (.v 0) (.bin .mod (.v 1) (.bi .len (.cons (.v 0) .nil)))) (.bin .mul (.c (.int 6553)) (.bin .fdiv (.v 1) (.bi .len (.cons (.v 0) .nil)))))) .nil))⟩
abbrev sJ(c:Nat):Fn:=⟨3,4,(.cons (.set 3 (.bin .mod (.bin .add (.bin .mul (.bin .mod (.cl c (.cons (.v 0) (.cons (.v 1) .nil))) (.c (.int 2147483563))) (.c (.int 69069))) (.bin .mul (.c (.int 104723)) (.bin .add (.v 1) (.c (.int 1))))) (.c (.int 2147483563)))) (.cons (.set 3 (.bin .mod (.bin .add (.bin .mul (.v 3) (.v 3)) (.bin .fdiv (.v 3) (.c (.int 3)))) (.c (.int 2147483399)))) (.cons (.ret (.bin .mod (.bin .fdiv (.bin .mod (.bin .add (.bin .mul (.v 3) (.v 3)) (.bin .fdiv (.v 3) (.c (.int 7)))) (.c (.int 2147483647))) (.c (.int 11))) (.v 2))) .nil)))⟩
def vX(ns:Kk)(k:Int):Int:=if ns=[]then 7*k else (ns[(k % ns.length).toNat]?.getD 0)+6553*(k / ns.length)
def cD(ns:Kk)(k many:Int):Int:=
 let c:=(vX ns k % 2147483563*69069+104723*(k+1)) % 2147483563
 let c:=(c*c+c / 3) % 2147483399
 (c*c+c / 7) % 2147483647 / 11 % many
def sL(ns:Kk)(k:Int)(h:0<many):0<=cD ns k many:=Int.emod_nonneg _ (by lia)
def mq(ns:Kk)(k:Int)(h:0<many):cD ns k many<many:=acN _ h
def jk(ns:Kk):V:=.bQ (ns.map V.int)
def Lr(ns:Kk):cP (gp (18+1)) (ns.map V.int) []=some (decide (ns=[])):=by cases ns<;>simp
section
variable{P:aE}{w:Nat}{fr ah aq bB:Fr}{k b:Bool}{a e c:E}{es:Es}{ss sa sb:Ss}{st:S}{lo hi:Eo}{it:It}{v x y z:V}{vs:T2}{i:Nat}{l:T2}{Q:Fl->Fr->Prop}
def aR(h:ofD d=some v):ev P k (.c d) fr=.ok v fr:=by rw[Wh,h];rfl
def az(h:mX k fr i=some v):ev P k (.v i) fr=.ok v fr:=by rw[Wi,h];rfl
def eE(h:bY P false es fr=.ok vs ah)(h2:kF vs=some v):ev P k (.tup es) fr=.ok v ah:=by rw[PF,h,ao,h2];rfl
def ee(h:bY P false es fr=.ok vs ah)(h2:dX vs=some v):ev P k (.lst es) fr=.ok v ah:=by rw[PJ,h,ao,h2];rfl
def cK(h:ev P (kf a (aF e)) a fr=.ok x ah)(h2:ev P true e ah=.ok y aq)(I:bX o x y=some v):ev P k (.bin o a e) fr=.ok v aq:=by rw[PK,h,ao,h2,ao,I];rfl
def bK(h:ev P (kf a (aF e)) a fr=.ok x ah)(h2:ev P true e ah=.ok y aq)(I:cop o x y=some b):ev P k (.cmp o a e) fr=.ok (.bl b) aq:=by rw[PL,h,ao,h2,ao,I];rfl
def pL(h:ev P true a fr=.ok (.int j) ah):ev P k (.neg a) fr=.ok (.int (-j)) ah:=by rw[PM,h];rfl
def Wl(h:ev P true a fr=.ok (.bl b) ah)(h2:b=true->ev P k e ah=.ok v aq)(I:b=false->.bl false=v/\ah=aq):ev P k (.an a e) fr=.ok v aq:=by
 rw[BV,h,ao,yo];cases b with
 |true=>exact h2 rfl
 |false=>obtain⟨rfl,rfl⟩:=I rfl;rfl
def sM(h:ev P true a fr=.ok (.bl true) ah)(h2:ev P k e ah=.ok v aq):ev P k (.an a e) fr=.ok v aq:=by rw[BV,h,ao,yo];exact h2
def vY(h:bu P a fr=.ok b ah)(h2:b=true->ev P k e ah=.ok v aq)(I:b=false->ev P k c ah=.ok v aq):ev P k (.iT a e c) fr=.ok v aq:=by
 rw[PN,h,ao];cases b with
 |true=>exact h2 rfl
 |false=>exact I rfl
def cS(h:ev P (kf a (aF e)) a fr=.ok x ah)(h2:ev P true e ah=.ok y aq)(I:eK x y=some v):ev P k (.ix a e) fr=.ok v aq:=by rw[Sh,h,ao,h2,ao,I];rfl
def II(h:ev P (kf a (aF e)) a fr=.ok x ah)(h2:ev P true e ah=.ok y aq)(I:uh x y=some v):ev P k (.jP a e) fr=.ok v aq:=by rw[PR,h,ao,h2,ao,I];rfl
def IJ(h:ev P (kf a (aF e++aF c)) a fr=.ok x ah)(h2:ev P (kf e (aF c)) e ah=.ok y aq)(I:ev P false c aq=.ok z bB)(Z:qJ x y z=some v):ev P k (.jQ a e c) fr=.ok v bB:=by rw[PU,h,ao,h2,ao,I,ao,Z];rfl
def Wm(h:ev P (kf a (jb lo++jb hi)) a fr=.ok x ah)(h2:iV P lo ah=.ok p aq)(I:iV P hi aq=.ok q bB)(Z:ji x p q=some v):ev P k (.sl a lo hi) fr=.ok v bB:=by rw[Si,h,ao,h2,ao,I,ao,Z];rfl
def bg(h:eL P es fr=.ok as ah)(h2:cz P f as ah=.ok v aq):ev P k (.cl f es) fr=.ok v aq:=by rw[Sj,h,ao];exact h2
def gg(h:bY P true es fr=.ok vs ah)(h2:cQ g vs=some v):ev P k (.bi g es) fr=.ok v ah:=by rw[Sk,h,ao,h2];rfl
def pM(I:jG m=true)(Z:(lent fr i).isSome=true)(h:bY P (DO m) es fr=.ok vs ah)(h2:iN m i vs ah ah[i]?=.ok v aq):ev P k (.me m (.v i) es) fr=.ok v aq:=by
 rw[PV I,gV Z,h,ao,Lo];exact h2
def vZ(I:jG m=false)(h:ev P (kf a (dD es)) a fr=.ok x ah)(h2:bY P true es ah=.ok vs aq)(Z:fK m x vs=some v):ev P k (.me m a es) fr=.ok v aq:=by rw[PX I,h,ao,h2,ao,Z];rfl
def jd{cond:Eo}(h:cL P true it fr=.ok vs ah)(I:undef t ah=true)(h2:cI (kY P a t cond ah) vs=some l)(Z:dX l=some v):ev P k (.comp a t it cond) fr=.ok v ah:=by
 rw[t6,h,ao,gV I,h2];show R.of (dX l) ah=_;rw[Z];rfl
def sN(h:cL P true it fr=.ok vs ah)(h2:dX vs=some v):ev P k (.gZ it) fr=.ok v ah:=by rw[PY,h,ao,h2];rfl
def v5(h:ev P true a fr=.ok x ah)(h2:toT x=some v):ev P k (.iU a) fr=.ok v ah:=by rw[PZ,h,ao,h2];rfl
def aM:bY P k .nil fr=.ok [] fr:=Le
def ay(h:ev P (k&&kf a (dD es)) a fr=.ok v ah)(h2:bY P k es ah=.ok vs aq):bY P k (.cons a es) fr=.ok (v :: vs) aq:=by rw[GS,h,ao,h2];rfl
def aL:eL P .nil fr=.ok [] fr:=Lf
def aO(hi:ig fr a=none)(h:ev P false a fr=.ok v ah)(h2:eL P es ah=.ok as aq):eL P (.cons a es) fr=.ok (.inr v :: as) aq:=by rw[yp,hi,BY,h,ao,h2];rfl
def kL(hi:ig fr a=some i)(h2:eL P es fr=.ok as aq):eL P (.cons a es) fr=.ok (.inl i :: as) aq:=by rw[yp,hi,BX,h2];rfl
def Su:iV P .no fr=.ok none fr:=P0
def Qh(h:ev P true a fr=.ok (.int j) ah):iV P (.yes a) fr=.ok (some j) ah:=by rw[Lh,h];rfl
def oN(h:bu P a fr=.ok false ah):bu P (.an a e) fr=.ok false ah:=by rw[Ea,h];rfl
def gD(h:bu P a fr=.ok true ah)(h2:bu P e ah=.ok b2 aq):bu P (.an a e) fr=.ok b2 aq:=by rw[Ea,h];exact h2
def sO(h:bu P a fr=.ok true ah):bu P (.orr a e) fr=.ok true ah:=by rw[AB,h];rfl
def fY(h:bu P a fr=.ok false ah)(h2:bu P e ah=.ok b2 aq):bu P (.orr a e) fr=.ok b2 aq:=by rw[AB,h];exact h2
def sP(h:bu P a fr=.ok b ah):bu P (.nt a) fr=.ok (!b) ah:=by rw[P4,h];rfl
def plainT:E->Bool
 |.an _ _=>false
 |.orr _ _=>false
 |.nt _=>false
 |_=>true
def aG(I:plainT a=true)(h:ev P true a fr=.ok x ah)(h2:truthy x=b):bu P a fr=.ok b ah:=by
 have:bu P a fr=(ev P true a fr).bind P5:=by
  cases a<;>first | (exists I;done)|exact fj rfl
 rw[this,h,ao,Lj,h2]
def fZ(h:src k fr a (ev P k a fr)=.ok x ah)(h2:fM x=some vs):cL P k (.seq a) fr=.ok vs ah:=by rw[Lk,h,ao,h2];rfl
def fC(h:um k fr i=some v):src k fr (.v i) r=.ok v fr:=by rw[So,h];rfl
def yq(h:bY P true es fr=.ok vs ah)(h2:fO vs=some l):cL P k (.jM es) fr=.ok l ah:=by rw[Ll,h,ao,h2];rfl
def Ls{l:Ξ}(h:ev P true a fr=.ok (.str l) ah):cL P k (.lE a) fr=.ok (dj 0 (xT l)) ah:=by rw[GU,h,ao];rfl
def sQ(h:ev P true a fr=.ok x ah)(h2:BN x=some vs):cL P k (.rev a) fr=.ok vs.reverse ah:=by rw[Lm,h,ao,h2];rfl
def Ze{P:aE}{fr:Fr}{i:Nat}{d:Ev.D}{x y:V}{o:Ev.br}{k b:Bool}(h1:mX (kf (.v i) (aF (.c d))) fr i=some x)(h2:ofD d=some y)(I:cop o x y=some k)(Z:k=b):bu P (.cmp o (.v i) (.c d)) fr=.ok b fr:=aG rfl (bK (az h1) (aR h2) I) Z
def bN(h:ev P false a fr=.ok v ah)(I:isNew a=false)(Z:put ah i (.val v)=some aq)(q:Q .nx aq):Wp (ex P w (.set i a) fr) Q:=by
 rw[Eb,h,ao,I,Z];exact⟨_,_,rfl,q⟩
def ir(h:ev P false a fr=.ok (.lst l) ah)(I:isNew a=true)(Z:put ah i (.own l)=some aq)(q:Q .nx aq):Wp (ex P w (.set i a) fr) Q:=by
 rw[Eb,h,ao,I,gV rfl,GV,Z];exact⟨_,_,rfl,q⟩
def iC(h:ev P true a fr=.ok v ah)(q:Q .nx ah):Wp (ex P w (.exp a) fr) Q:=by rw[P7,h];exact⟨_,_,rfl,q⟩
def bT(h:ev P false a (gM fr)=.ok v ah)(q:Q (.ret v) ah):Wp (ex P w (.ret a) fr) Q:=by rw[P8,h];exact⟨_,_,rfl,q⟩
def bh(h:bu P a fr=.ok b ah)(h2:b=true->Wp (exs P w sa ah) Q)(I:b=false->Wp (exs P w sb ah) Q):Wp (ex P w (.iff a sa sb) fr) Q:=by
 rw[P9,h,ao];cases b with
 |true=>exact h2 rfl
 |false=>exact I rfl
def aQ(q:Q .nx fr):Wp (exs P w .nil fr) Q:=by exact⟨_,_,rfl,q⟩
def nx(P:aE)(w:Nat)(ss:Ss)(Q:Fl->Fr->Prop):Fl->Fr->Prop
 |.nx,fr=>Wp (exs P w ss fr) Q
 |g,fr=>Q g fr
def ak(q:Wp (ex P w st fr) (nx P w ss Q)):Wp (exs P w (.cons st ss) fr) Q:=by
 rw[GW,wp_bind];refine q.mono λg ah z=>?_;cases g with
 |nx=>exact z
 |bk=>exact⟨_,_,rfl,z⟩
 |ct=>exact⟨_,_,rfl,z⟩
 |ret v=>exact⟨_,_,rfl,z⟩
def iE{P:aE}{w:Nat}{a:Ev.E}{sa ss:Ev.Ss}{fr ah:Fr}{Q:Fl->Fr->Prop}(h:bu P a fr=.ok false ah)(q:Wp (exs P w ss ah) Q):Wp (exs P w (.cons (.iff a sa .nil) ss) fr) Q:=ak (bh h (zN ·) λ_=>aQ q)
def sR(h:cL P false it (mW (itv it) fr)=.ok vs ah)(q:Wp (forL (turnF P w t ss) vs ah) Q):Wp (ex P w (.for t it ss) fr) Q:=by rw[C6,h,ao];exact q
def Ec{I Z y' f:Nat}{K:Θ}(hc:I≠y'/\Z≠I/\I<fr.length/\Z<fr.length)(h:cL P false (.seq (.v y')) (mW [y'] fr)=.ok vs ah)(hk:kG P f vs []=some K)(h2:put ah I (.val (.dct K))=some aq)(h3:jH aq Z vs=some bB)(q:Q .nx bB):Wp (ex P w (.gT I Z y' f) fr) Q:=by
 rw[Ln,gV hc,h,ao,hk];show Wp ((R.of (put ah I (.val (.dct K))) ah).bind _) Q;rw[h2];show Wp ((R.of (jH aq Z vs) aq).bind _) Q;rw[h3];exact⟨_,_,rfl,q⟩
def IK(q:Wp (fP (λaq=>bu P a aq) (λaq=>exs P w ss aq) w fr) Q):Wp (ex P w (.lX a ss) fr) Q:=by exact q
def iu(I:bD t d fr=some ah)(q:Wp (exs P w ss ah) Q):Wp (turnF P w t ss d fr) Q:=by unfold turnF;rw[I];exact q
def kM(I:bD t d (vF fr)=some ah)(h:ev P false a ah=.ok v aq):kY P a t .no fr d=some (some v):=by
 unfold kY;rw[I];dsimp only;rw[P1];rw[h];rfl
def ux(I:bD t d (vF fr)=some ah)(h:bu P c ah=.ok b aq)(h2:b=true->ev P false a ah=.ok v bB):kY P a t (.yes c) fr d=some (if b then some v else none):=by
 unfold kY;rw[I];dsimp only;rw[Li,h];dsimp only;cases b with
 |true=>rw[h2 rfl];rfl
 |false=>rfl
def lM:cop .eq (.str p) (.str q)=some (decide (p=q)):=Aw
def jI:cop .ne (.str p) (.str q)=some (!decide (p=q)):=by rw[sD,Aw];rfl
def GY:cop .eq (.int p) (.int q)=some (decide (p=q)):=K8
def B4:cop .ne (.int p) (.int q)=some (!decide (p=q)):=by rfl
def Wn:cop .lt (.int p) (.int q)=some (decide (p<q)):=rfl
def B5:cop .gt (.int p) (.int q)=some (decide (q<p)):=rfl
def pN(h:bZ p q=true):bX .mul (.int p) (.int q)=some (.int (p*q)):=by rw[ym,gV h]
def pO(h:0<q):bX .mod (.int p) (.int q)=some (.int (p % q)):=by rw[K7,gV h]
def wc(h:0<q)(h2:q<1073741824):bX .fdiv (.int p) (.int q)=some (.int (p / q)):=by rw[GQ,gV ⟨h,h2⟩]
end
def iw(e:fr[i]?=some o)(h:vo o):put fr i s=some (fr.set i (some s)):=by rw[Qd,e,Qe h]
def B6(z:fr[i]?=some a)(I:vo a)(Z:(fr.set i (some (.val u)))[j]?=some b)(hb:vo b):bD (.many [i,j]) (.tup [u,v]) fr=some ((fr.set i (some (.val u))).set j (some (.val v))):=by
 simp only[BZ,zc,B3,iw z I,Option.bind,iw Z hb]
def bind1(z:fr[i]?=some a)(I:vo a):bD (.one i) v fr=some (fr.set i (some (.val v))):=iw z I
section
variable{P:aE}{X:di}{w:Nat}(hX:∀f sl c,X f sl=some c->P f sl=none)
include hX
mutual
theorem g8:∀(e:E) {fr:Fr}{c:Nat},xe P X e fr=some c->(∀k,ev P k e fr=.bad)/\bu P e fr=.bad
 |.cl f es,fr,c,z=>by
  simp only[xe]at z;have q:∀k,ev P k (.cl f es) fr=.bad:=λk=>by
   rw[ev];cases y:eL P es fr with
   |ok d g=>
    rw[y]at z;simp only at z;simp only[ao];unfold BP at z;unfold cz;split at z
    case isFalse=>cases z
    rename_i nd;rw[gV nd];rw[Zz]at z;obtain⟨sl,a,b⟩:=z;rw[a];simp only;rw[hX _ _ _ b]
   |bad=>rfl
  exact⟨q,by rw[fj rfl,q];rfl⟩
 |.ix _ _,_,_,z=>nomatch z|.me _ _ _,_,_,z=>nomatch z
 |.tup _,_,_,z=>nomatch z|.comp _ _ _ _,_,_,z=>nomatch z|.iU _,_,_,z=>nomatch z
 |.c _,_,_,z=>nomatch z|.v _,_,_,z=>nomatch z|.lst _,_,_,z=>nomatch z
 |.bin _ _ _,_,_,z=>nomatch z|.cmp _ _ _,_,_,z=>nomatch z
 |.nt _,_,_,z=>nomatch z|.neg _,_,_,z=>nomatch z|.an _ _,_,_,z=>nomatch z|.orr _ _,_,_,z=>nomatch z|.iT _ _ _,_,_,z=>nomatch z
 |.sl _ _ _,_,_,z=>nomatch z
 |.bi _ _,_,_,z=>nomatch z
 |.gZ _,_,_,z=>nomatch z
 |.gf,_,_,z=>nomatch z|.jP _ _,_,_,z=>nomatch z|.jQ _ _ _,_,_,z=>nomatch z
theorem AF:∀(es:Es) {fr:Fr}{c:Nat},xV P X es fr=some c->eL P es fr=.bad
 |.nil,_,_,z=>nomatch z
 |.cons e es,fr,c,z=>by
  simp only[xV]at z;rw[eL];split at z
  .rw[AF es z];rfl
  .split at z
   .rename_i a;rw[a];simp only[ao];rw[AF es z];rfl
   .rw[(g8 e z).1];rfl
end
mutual
theorem nU:∀(s:S) {fr:Fr}{c:Nat},xs P X w s fr=some c->ex P w s fr=.bad
 |.eG c,_,_,_=>by rw[ex]
 |.set i e,fr,c,z=>by rw[ex,(g8 hX e z).1];rfl
 |.exp e,fr,c,z=>by rw[ex,(g8 hX e z).1];rfl
 |.ret e,fr,c,z=>by rw[ex,(g8 hX e z).1];rfl
 |.iff t a b,fr,c,z=>by
  simp only[xs]at z;rw[ex];cases y:bu P t fr with
  |bad=>rfl
  |ok k d=>
   rw[y]at z;simp only at z;simp only[ao];cases k with
   |true=>exact gI a z
   |false=>exact gI b z
 |.for _ _ _,_,_,z=>nomatch z|.lX _ _,_,_,z=>nomatch z
 |.dput _ _ _,_,_,z=>nomatch z
 |.j0 _ _,_,_,z=>nomatch z|.gT _ _ _ _,_,_,z=>nomatch z
 |.tr _ _ _,_,_,z=>nomatch z
theorem gI:∀(s:Ss) {fr:Fr}{c:Nat},xss P X w s fr=some c->exs P w s fr=.bad
 |.nil,_,_,z=>nomatch z
 |.cons s ss,fr,c,z=>by
  simp only[xss]at z;rw[exs];split at z
  .rename_i e;rw[e];exact gI ss z
  .cases z
  .rw[nU s z];rfl
end
end
def Sv(z:xss P X w fn.body fr=some c):oz fn ds=none:=by
 unfold oz;split
 .rename_i e;subst e;simp[dY,xss,ex,ev,xs,xe]at z
 .rfl
theorem kZ(F:List Fn)(w:Nat):∀(n f:Nat) (sl:List Sl) (c:Nat),dP F w n f sl=some c->run F w n f sl=none
 |0,_,_,_,_=>rfl
 |n+1,f,ds,c,z=>by
  rw[iW]at z;rw[fy];cases y:F[f]? with
  |none=>rw[y]at z;exists z
  |some a=>
   rw[y]at z;simp only at z ⊢;split at z
   .rename_i k;rw[gV k,gI (kZ F w n) _ z];exact Sv z
   ·exists z
section
variable{F:List Fn}{P:aE}{X:di}{w n f c:Nat}{fr ah:Fr}{s:S}{ss sa sb:Ss}{t:E}{b:Bool}{es:Es}{v:V}
def Ed(z:∀f sl c,X f sl=some c->P f sl=none)(h:xs P X w s fr=some c):xss P X w (.cons s ss) fr=some c:=by
 simp only[xss,nU z s h];exact h
def Sw(h:bu P t fr=.ok b ah)(h2:(if b then xss P X w sa ah else xss P X w sb ah)=some c):xs P X w (.iff t sa sb) fr=some c:=by
 simp only[xs,h];exact h2
def Sx(h:c<9:=by decide):xs P X w (.eG c) fr=some c:=gV h
def Sy(z:F[f]?=some fn)(I:ds.length=fn.np)(h:xss (run F w n) (dP F w n) w fn.body (cW fn ds)=some c):dP F w (n+1) f ds=some c:=by
 rw[iW,z];simp only;rw[gV I];exact h
theorem mz:∀vs:T2,bO (vs.map .inr)=[]/\args fr (vs.map .inr)=some (vs.map Sl.val)
 |[]=>⟨rfl,rfl⟩
 |v :: vs=>⟨(mz vs).1,by rw[WL,args,(mz vs).2];rfl⟩
def B7{vs:T2}(h:P f (vs.map .val)=none):cz P f (vs.map .inr) fr=.bad:=by
 have a:=mz (fr:=fr);unfold cz;rw[(a vs).1,(a vs).2];simp only[h];rfl
def Sz(hF:F.length<=1000)(z:ds.all Sl.ig=true)(h:dP F w n f ds=some c):run F w n (f+1000) ds=some (.int (c:Int),[]):=by
 cases n with
 |zero=>exists h
 |succ n=>
  rw[fy,Z7 (by lia)];simp only[nv];rw[gV ⟨Nat.le_add_left _ _,z⟩,show f+1000 - Ev.xo=f from abK ..];rw[h];rfl
def Qi{vs:T2}(h:eL P es fr=.ok (vs.map .inr) ah)(h2:P f (vs.map .val)=some (v,[]))(q:Q (.ret (.bl false)) ah):Wp (ex P w (.tr f 1002 es) fr) Q:=by
 have a:=λvs=>(mz (fr:=fr) vs).1;have:=jT (fr:=ah) h2;simp only[ex,h,ao,a,this];exact⟨_,_,rfl,q⟩
def Lu{Q:Fl->Fr->Prop}{vs:T2}(h:eL (run F w n) es fr=.ok (vs.map .inr) ah)(hF:F.length<=1000)(h2:dP F w n f (vs.map .val)=some 0)(q:Q (.ret (.bl true)) ah):Wp (ex (run F w n) w (.tr f 1002 es) fr) Q:=by
 have a:=λvs=>(mz (fr:=fr) vs).1;have d:(vs.map Sl.val).all Sl.ig=true:=by simp[Sl.ig]
 have e:=B7 (P:=run F w n) (f:=f) (fr:=ah) (kZ F w n f _ 0 h2);have g:=jT (P:=run F w n) (f:=f+1000) (fr:=ah) (Sz hF d h2);have i:BO 1002 (.int ((0:Nat):Int))=some (.bl true):=by simp[BO]
 simp only[ex,h,ao,a,e];show Wp ((cz (run F w n) (f+1000) (vs.map .inr) ah).bind _) Q;rw[g,ao,i];exact⟨_,_,rfl,q⟩
end
end Pv
theorem Pv.zq0{x v}(h:Pv.truthy x=v):Pv.truthy x=v:=h
theorem Pv.zq1{x y v}(h:Pv.eK x y=some v):Pv.eK x y=some v:=h
theorem Pv.zq2{x v}(h:Pv.toT x=some v):Pv.toT x=some v:=h
theorem Pv.zq3{x y v}(h:Pv.mT x y=some v):Pv.mT x y=some v:=h
theorem Pv.zq4{x v}(h:Pv.fM x=some v):Pv.fM x=some v:=h
local macro_rules|`(tactic|array_get_dec)=>do
 let n:=Lean.Syntax.node .none
 let a:=Lean.Syntax.atom .none
 let p k:=Lean.Name.mkStr `Lean.Parser.Tactic k
 let u k i:=n (p k) #[a k,i]
 let q l:=n (p "tacticSeq") #[n (p "tacticSeq1Indented") #[n `null l]]
 let t:=("eaM eaL eSu raz raR acK abK aeE aee acS aWm abg agg apL av5 asN dpM ovZ aay oaO okL aQh asP oaG eSe esA egP eSg egO eSf esC w efS eGO elM ejI eGY eB4 eWn eB5 rzq0 rzq1 rzq2 rzq3 rzq4 z".splitOn " ").toArray.map λs=>
  let c:=s.toList.head!
  let i:Lean.Syntax:=Lean.mkIdent (.mkStr `Pv (String.ofList s.toList.tail))
  let r:Lean.Syntax:=Lean.mkIdent `rfl
  let z:=#[n (p "assumption") #[a "assumption"]]
  n `null #[a "|",q (if c='e' then #[u "exact" i] else if c='z' then z else if c='w' then #[n (p "withReducible") #[a "with_reducible",q z]] else if c='a' then #[u "apply" i] else if c='r' then #[u "apply" i,a ";",n (p "tacticRfl") #[a "rfl"]] else #[u "apply" (n `Lean.Parser.Term.app #[i,n `null (if c='o' then #[r] else #[r,r])])])]
 pure (n (p "first") #[a "first",n `null t])
namespace Pv
open Ev (D bA br TY BI ME T E Es Eo It S Ss Fn big deep b2i rep bZ dU bM aS cut cE dI slots)
def Qj(a b:Int):bZ (a % 2147483563) b=true:=by simp[bZ];lia
def Wo(a b:Int):bZ (a % 2147483399) b=true:=by simp[bZ];lia
def Qk(h:bM l j=some v):eK (.bQ l) (.int j)=some v:=h
def Ql:cop .eq (.bQ l) (.lst m)=cP (gp (18+1)) l m:=rfl
def GZ(hc:F[c]?=some sI)(z:ns.length<=63)(k:Int):run F w (n+1) c [.val (jk ns),.val (.int k)]=some (.int (vX ns k),[]):=by
 refine cC hc rfl (ak (bh (aG rfl (bK (az rfl) (ee aM gO) (Ql.trans (Lr ns))) rfl) (λh=>?_) λh=>aQ ?_))
 .have d:=ZU h;exact ak (bT (cK (aR rfl) (az rfl) (pN rfl)) ⟨by rw[vX,gV d],rfl⟩)
 .have d:=aah h;have a:=List.length_pos_iff.mpr d;have Ui:(0:Int)<(ns.map V.int).length:=by rw[ZF];exact Int.natCast_pos.mpr a
  have e:((ns.map V.int).length:Int)<1073741824:=by rw[ZF];lia
  have f:=Int.emod_nonneg k (b:=(ns.length:Int)) (by lia);have g:(k % ns.length).toNat<ns.length:=by have:=acN k (b:=(ns.length:Int)) (by lia);lia
  have i:bM (ns.map V.int) (k % ((ns.map V.int).length:Int))=some (.int (ns[(k % (ns.length:Int)).toNat]?.getD 0)):=by
   rw[ZF,jU f,aaa,Zy g];rfl
  refine ak (bT (cK (cS (az rfl) (cK (az rfl) (gg (ay (az rfl) aM) Az) (pO Ui)) (Qk i)) (cK (aR rfl) (cK (az rfl) (gg (ay (az rfl) aM) Az) (wc Ui e)) (pN rfl)) fS) ⟨?_,rfl⟩);rw[vX,Yl d,ZF]
def gE(hc:F[c]?=some sI)(hd:F[dr]?=some (sJ c))(z:ns.length<=63)(k:Int)(I:0<many):run F w (n+2) dr [.val (jk ns),.val (.int k),.val (.int many)]=some (.int (cD ns k many),[]):=by
 refine cC hd rfl (ak (bN (cK (cK (cK (cK (bg (aO rfl (az rfl) (aO rfl (az rfl) aL)) (call2 (GZ hc z k))) (aR rfl) (pO (by decide))) (aR rfl) (pN (Qj _ _))) (cK (aR rfl) (cK (az rfl) (aR rfl) fS) (pN rfl)) fS) (aR rfl) (pO (by decide))) rfl rfl ?_));refine ak (bN (cK (cK (cK (az rfl) (az rfl) (pN (Qj _ _))) (cK (az rfl) (aR rfl) (wc (by decide) (by decide))) fS) (aR rfl) (pO (by decide))) rfl rfl ?_);exact ak (bT (cK (cK (cK (cK (cK (az rfl) (az rfl) (pN (Wo _ _))) (cK (az rfl) (aR rfl) (wc (by decide) (by decide))) fS) (aR rfl) (pO (by decide))) (aR rfl) (wc (by decide) (by decide))) (az rfl) (pO I)) ⟨rfl,rfl⟩)
abbrev fText(z:Nat):Fn:=⟨3,4,(.cons (.ret (.me .join (.c (.str [])) (.cons (.comp (.ix (.c (.str [97,98,99,32])) (.cl z (.cons (.v 0) (.cons (.bin .add (.bin .add (.v 1) (.c (.int 1))) (.v 3)) (.cons (.c (.int 4)) .nil))))) (.one 3) (.jM (.cons (.cl z (.cons (.v 0) (.cons (.v 1) (.cons (.bin .add (.v 2) (.c (.int 1))) .nil)))) .nil)) .no) .nil))) .nil)⟩
abbrev IL(z:Nat):S:=.iff (.cmp .eq (.cl z (.cons (.v 0) (.cons (.bin .add (.v 1) (.bin .mul (.c (.int 4)) (.v 4))) (.cons (.c (.int 4)) .nil)))) (.c (.int 0))) (.cons (.set 5 (.bin .mul (.ix (.c (.str [97,98,122])) (.cl z (.cons (.v 0) (.cons (.bin .add (.bin .add (.v 1) (.bin .mul (.c (.int 4)) (.v 4))) (.c (.int 1))) (.cons (.c (.int 3)) .nil))))) (.bin .add (.c (.int 1)) (.cl z (.cons (.v 0) (.cons (.bin .add (.bin .add (.v 1) (.bin .mul (.c (.int 4)) (.v 4))) (.c (.int 2))) (.cons (.c (.int 2)) .nil))))))) (.cons (.set 3 (.bin .add (.v 3) (.tup (.cons (.tup (.cons (.c (.str [112,117,116])) (.cons (.v 5) .nil))) .nil)))) .nil)) .nil
abbrev IM(z:Nat):S:=.iff (.cmp .lt (.v 4) (.bi .len (.cons (.v 2) .nil))) (.cons (.set 6 (.cmp .gt (.cl z (.cons (.v 0) (.cons (.bin .add (.bin .add (.v 1) (.bin .mul (.c (.int 4)) (.v 4))) (.c (.int 3))) (.cons (.c (.int 3)) .nil)))) (.c (.int 0)))) (.cons (.set 3 (.bin .add (.v 3) (.tup (.cons (.iT (.v 6) (.tup (.cons (.c (.str [107,101,101,112])) (.cons (.c (.int 1)) .nil))) (.tup (.cons (.c (.str [100,114,111,112])) (.cons (.ix (.v 2) (.v 4)) .nil)))) .nil)))) .nil)) .nil
abbrev AH(z:Nat):Fn:=⟨3,7,(.cons (.set 3 (.tup .nil)) (.cons (.for (.one 4) (.jM (.cons (.bin .add (.bi .len (.cons (.v 2) .nil)) (.c (.int 1))) .nil)) (.cons (IL z) (.cons (IM z) .nil))) (.cons (.ret (.v 3)) .nil)))⟩
inductive Pt where
 |keep (n:Nat)|put (s:Ξ)|drop (s:Ξ)
deriving DecidableEq
def eX:Ξ:=[107,101,101,112]
def qN:Ξ:=[112,117,116]
def m5:Ξ:=[100,114,111,112]
def Pt.v:Pt->V
 |.keep n=>.tup [.str eX,.int n]
 |.put s=>.tup [.str qN,.str s]
 |.drop s=>.tup [.str m5,.str s]
abbrev U2:=List Pt
def aD(c:U2):V:=.tup (c.map Pt.v)
def txt(ns:Kk)(z I:Int):Ξ:=(List.range (cD ns z (I+1)).toNat).map λ(k:Nat)=>[97,98,99,32].getD (cD ns (z+1+k) 4).toNat 0
def Lv(ns:Kk)(z:Int)(h:0<=most):(txt ns z most).length<=most.toNat:=by
 unfold txt;have a:=mq ns z (many:=most+1) (by lia);simp;lia
def getD_at{α:Type}{l:List α}{i:Int}(h0:0<=i)(h1:i<l.length)(d:α):bM l i=some (l.getD i.toNat d):=by
 have:i.toNat<l.length:=by lia
 rw[jU h0];simp[List.getD,Zy this]
def lO{α β:Type}(l:List α)(f:α->β):(l.map λx=>[f x]).flatten=l.map f:=by induction l<;>simp[*]
def Ef(lo:Int)(n:Nat):range lo n=(List.range n).map λ(i:Nat)=>V.int (lo+i):=rfl
section
variable{F:List Fn}{w n c dr t:Nat}(hc:F[c]?=some sI)(hd:F[dr]?=some (sJ c)){ns:Kk}(hn:ns.length<=63)
include hc hd hn
theorem G0(I:F[t]?=some (fText dr))(k z:Int)(hm:0<=z)(Z:z<=1000):run F w (n+3) t [.val (jk ns),.val (.int k),.val (.int z)]=some (.str (txt ns k z),[]):=by
 have b:=sL ns k (many:=z+1) (by lia);have g:=mq ns k (many:=z+1) (by lia);have d:=λfr=>gq (fr:=fr) (gE (w:=w) (n:=n) hc hd hn k (many:=z+1) (by lia));have B8:cI (kY (run F w (n+2)) (.ix (.c (.str [97,98,99,32])) (.cl dr (.cons (.v 0) (.cons (.bin .add (.bin .add (.v 1) (.c (.int 1))) (.v 3)) (.cons (.c (.int 4)) .nil))))) (.one 3) .no [some (.val (jk ns)),some (.val (.int k)),some (.val (.int z)),none]) (range 0 (cD ns k (z+1)).toNat)=some (((List.range (cD ns k (z+1)).toNat).map λ(j:Nat)=>[[97,98,99,32].getD (cD ns (k+1+j) 4).toNat 0]).map V.str):=by
  rw[Ef,abw];refine iM _ _ _ λj _=>?_;have e:=λfr=>gq (fr:=fr) (gE (w:=w) (n:=n) hc hd hn (k+1+j) (many:=4) (by decide));have h:eK (.str [97,98,99,32]) (.int (cD ns (k+1+j) 4))=some (.str [[97,98,99,32].getD (cD ns (k+1+j) 4).toNat 0]):=by
   rw[mh,getD_at (l:=[97,98,99,32]) (sL ns (k+1+j) (many:=4) (by decide)) (mq ns (k+1+j) (many:=4) (by decide)) 0];rfl
  rw[show(0:Int)+(j:Int)=j from abx _];exact kM rfl (by (repeat (first|array_get_dec|exact e _)))
 have a:=BU (l:=(List.range (cD ns k (z+1)).toNat).map λ(j:Nat)=>[[97,98,99,32].getD (cD ns (k+1+j) 4).toNat 0]) (by rw[lO];simp;lia);rw[lO]at a;have Qm:dX (((List.range (cD ns k (z+1)).toNat).map λ(j:Nat)=>[[97,98,99,32].getD (cD ns (k+1+j) 4).toNat 0]).map V.str)=some (.lst _):=cU (bR (by simp;lia));have f:=PD b (show cD ns k (z+1)<=100000 by lia);refine cC I rfl (ak (bT (vZ rfl (aR rfl) (ay (jd (yq (by (repeat (first|array_get_dec|exact d _))) f) rfl B8 Qm) aM) a) ⟨rfl,rfl⟩))
end
def kh(ns:Kk)(z:Int)(s:Ξ)(k:Nat):U2:=
 (if cD ns (z+4*k) 4=0 then [.put (rep (1+cD ns (z+4*k+2) 2).toNat [[97,98,122].getD (cD ns (z+4*k+1) 3).toNat 0])]else [])++
 (match s[k]? with
 |some c=>[if 0<cD ns (z+4*k+3) 3 then .keep 1 else .drop [c]]
 |none=>[])
def fT(ns:Kk)(z:Int)(s:Ξ)(k:Nat):U2:=(List.range k).flatMap (kh ns z s)
def chg(ns:Kk)(z:Int)(s:Ξ):U2:=fT ns z s (s.length+1)
def Eg(ns:Kk)(z:Int)(s:Ξ)(k:Nat):(kh ns z s k).length<=2:=by
 unfold kh;split<;>split<;>simp
def ki(ns:Kk)(z:Int)(s:Ξ)(k:Nat):fT ns z s (k+1)=fT ns z s k++kh ns z s k:=by simp[fT,aaG]
theorem oQ(ns:Kk)(z:Int)(s:Ξ):∀k,(fT ns z s k).length<=2*k
 |0=>by simp[fT]
 |k+1=>by
  have a:=Eg ns z s k;have b:=oQ ns z s k;rw[ki,Zx];lia
def Wq(i:Int):bZ 4 i=true:=by simp[bZ]
def B9(h:a.length+b.length<=100000):bX .add (aD a) (aD b)=some (aD (a++b)):=by
 simp only[aD];rw[GN (by simpa using h)];simp
def Qn{j:Int}{n:Nat}(h:n<=100000)(e:j=n):fO [.int j]=some (range 0 n):=by
 subst e;rw[PD (by lia) (by lia)];rfl
def Lx(h:a.length<100000):bX .add (aD a) (.tup [.tup [.str [112,117,116],.str s]])=some (aD (a++[.put s])):=B9 (b:=[.put s]) (by simp;lia)
def G1(h:a.length<100000):bX .add (aD a) (.tup [.tup [.str [100,114,111,112],.str s]])=some (aD (a++[.drop s])):=B9 (b:=[.drop s]) (by simp;lia)
def G2(h:a.length<100000):bX .add (aD a) (.tup [.tup [.str [107,101,101,112],.int 1]])=some (aD (a++[.keep 1])):=B9 (b:=[.keep 1]) (by simp;lia)
section
variable{F:List Fn}{w n c dr t:Nat}(hc:F[c]?=some sI)(hd:F[dr]?=some (sJ c)){ns:Kk}(hn:ns.length<=63)
include hc hd hn
theorem G3(k:Int)(x:V)(fd:U2)(j:Nat)(u v:Tx)(I:vo u)(Z:fd.length<=10000):
  Wp (ex (run F w (n+2)) w (IL dr) [some (.val (jk ns)),some (.val (.int k)),some (.val x),some (.val (aD fd)),some (.val (.int j)),u,v]) λg fr=>g=.nx/\∃b,vo b/\fr=[some (.val (jk ns)),some (.val (.int k)),some (.val x),some (.val (aD (fd++if cD ns (k+4*j) 4=0 then [.put (rep (1+cD ns (k+4*j+2) 2).toNat [[97,98,122].getD (cD ns (k+4*j+1) 3).toNat 0])]else []))),some (.val (.int j)),b,v]:=by
 have e:=λfr=>gq (fr:=fr) (gE (w:=w) (n:=n) hc hd hn (k+4*j) (many:=4) (by decide));have o:bX .mul (.int 4) (.int j)=some (.int (4*j)):=by rfl
 refine bh (by (repeat (first|array_get_dec|exact e _))) (λh=>?_) λh=>?_
 .have d:=ZU h;have f:=λfr=>gq (fr:=fr) (gE (w:=w) (n:=n) hc hd hn (k+4*j+1) (many:=3) (by decide));have i:=λfr=>gq (fr:=fr) (gE (w:=w) (n:=n) hc hd hn (k+4*j+2) (many:=2) (by decide));have p:=sL ns (k+4*j+2) (many:=2) (by decide);have q:=mq ns (k+4*j+2) (many:=2) (by decide);have r:eK (.str [97,98,122]) (.int (cD ns (k+4*j+1) 3))=some (.str [[97,98,122].getD (cD ns (k+4*j+1) 3).toNat 0]):=by
   rw[mh,getD_at (l:=[97,98,122]) (sL ns (k+4*j+1) (many:=3) (by decide)) (mq ns (k+4*j+1) (many:=3) (by decide)) 0];rfl
  have y:=GP (j:=1+cD ns (k+4*j+2) 2) (a:=[[97,98,122].getD (cD ns (k+4*j+1) 3).toNat 0]) (by lia) (by lia) (by simp);have z:=Lx (a:=fd) (s:=rep (1+cD ns (k+4*j+2) 2).toNat [[97,98,122].getD (cD ns (k+4*j+1) 3).toNat 0]) (by lia);refine ak (bN (by (repeat (first|array_get_dec|exact f _|exact i _))) rfl (iw rfl I) ?_);refine ak (bN (by repeat array_get_dec) rfl rfl (aQ ?_));rw[gV d];exact⟨rfl,_,.val,rfl⟩
 .have d:=aah h;rw[Yl d,ZK];exact aQ ⟨rfl,u,I,rfl⟩
theorem G4(k:Int)(x:Ξ)(Z:x.length<=1000)(fd:U2)(j:Nat)(u v:Tx)(z:vo v)(I:fd.length<=10000):
  Wp (ex (run F w (n+2)) w (IM dr) [some (.val (jk ns)),some (.val (.int k)),some (.val (.str x)),some (.val (aD fd)),some (.val (.int j)),u,v]) λg fr=>g=.nx/\∃b,vo b/\fr=[some (.val (jk ns)),some (.val (.int k)),some (.val (.str x)),some (.val (aD (fd++match x[j]? with
     |some c=>[if 0<cD ns (k+4*j+3) 3 then .keep 1 else .drop [c]]
     |none=>[]))),some (.val (.int j)),u,b]:=by
 have p:cQ .len [.str x]=some (.int (x.length:Nat)):=aaR (by lia);refine bh (by repeat array_get_dec) (λh=>?_) λh=>?_
 .have d:j<x.length:=by have:=ZU h;lia
  have o:=λfr=>gq (fr:=fr) (gE (w:=w) (n:=n) hc hd hn (k+4*j+3) (many:=3) (by decide));have q:bX .mul (.int 4) (.int j)=some (.int (4*j)):=by rw[ym,Wq];rfl
  have l:x[j]?=some x[j]:=Zy d;have r:eK (.str x) (.int j)=some (.str [x[j]]):=by rw[mh,zw,l];rfl
  rw[l];refine ak (bN (by (repeat (first|array_get_dec|exact o _))) rfl (iw rfl z) ?_);by_cases e:0<cD ns (k+4*j+3) 3
  .have f:=G2 (a:=fd) (by lia);have i:truthy (.bl (decide (0<cD ns (k+4*j+3) 3)))=true:=ZO e;refine ak (bN (cK (az rfl) (eE (ay (vY (b:=true) (aG rfl (az rfl) i) (λ_=>by repeat array_get_dec) λh=>absurd h (by decide)) aM) sA) f) rfl rfl (aQ ?_));refine⟨rfl,some (.val (.bl (decide (0<cD ns (k+4*j+3) 3)))),.val,?_⟩;simp only[gV e];rfl
  .have f:=G1 (a:=fd) (s:=[x[j]]) (by lia);have i:truthy (.bl (decide (0<cD ns (k+4*j+3) 3)))=false:=ZG e;refine ak (bN (cK (az rfl) (eE (ay (vY (b:=false) (aG rfl (az rfl) i) (zN ·) λ_=>by repeat array_get_dec) aM) sA) f) rfl rfl (aQ ?_));refine⟨rfl,some (.val (.bl (decide (0<cD ns (k+4*j+3) 3)))),.val,?_⟩;simp only[Yl e];rfl
 .have d:¬ j<x.length:=by have:=aah h;lia
  rw[Z7 (by lia),ZK];exact aQ ⟨rfl,v,z,rfl⟩
theorem Ca(I:F[t]?=some (AH dr))(k:Int)(x:Ξ)(Z:x.length<=1000):run F w (n+3) t [.val (jk ns),.val (.int k),.val (.str x)]=some (aD (chg ns k x),[]):=by
 refine cC I rfl ?_;have y:cQ .len [.str x]=some (.int x.length):=aaR (by lia);have z:fO [.int (x.length+1)]=some (range 0 (x.length+1)):=Qn (by lia) (by lia);refine ak (bN (by repeat array_get_dec) rfl rfl ?_);refine ak (sR (yq (ay (cK (gg (ay (az rfl) aM) y) (aR rfl) fS) aM) z) ?_);refine Lc (λj h=>∃a b c,vo a/\vo b/\vo c/\h=[some (.val (jk ns)),some (.val (.int k)),some (.val (.str x)),some (.val (aD (fT ns k x j))),a,b,c]) (λj h C ⟨a,b,d,i,l,e,f⟩=>?_) (λh ⟨a,b,d,i,l,e,f⟩=>?_) ⟨none,none,none,.none,.none,.none,rfl⟩
 .subst f;have hz:=oQ ns k x j;rw[show 0+(j:Int)=j from abx _];refine iu (bind1 rfl i) (ak ?_);refine(G3 hc hd hn k (.str x) (fT ns k x j) j b d l (by lia)).mono λg h ⟨o,r,p,q⟩=>?_;subst o q;refine ak ?_;refine(G4 hc hd hn k x Z _ j r d e (by split<;>simp<;>lia)).mono λg h ⟨o,A,Yh,q⟩=>?_;subst o q;refine aQ ?_;refine⟨some (.val (.int j)),r,A,.val,p,Yh,?_⟩;rw[ki,kh,ZV]
 .subst f;refine ak (bT (ah:=[some (.val (jk ns)),some (.val (.int k)),some (.val (.str x)),some (.val (aD (fT ns k x (x.length+1)))),a,b,d]) ?_ ⟨rfl,rfl⟩);have B:gM [some (.val (jk ns)),some (.val (.int k)),some (.val (.str x)),some (.val (aD (fT ns k x (x.length+1)))),a,b,d]=[some (.val (jk ns)),some (.val (.int k)),some (.val (.str x)),some (.val (aD (fT ns k x (x.length+1)))),a,b,d]:=by
   show _ :: _ :: _ :: _ :: a.map Sl.gW :: b.map Sl.gW :: [d.map Sl.gW]=_;rw[jz i,jz l,jz e];rfl
  rw[B];exact az rfl
end
abbrev eg:Fn:=⟨1,1,(.cons (.iff (.cmp .eq (.ix (.v 0) (.c (.int 0))) (.c (.str [107,101,101,112]))) (.cons (.ret (.ix (.v 0) (.c (.int 1)))) .nil) .nil) (.cons (.ret (.bi .len (.cons (.ix (.v 0) (.c (.int 1))) .nil))) .nil))⟩
abbrev fU(z:Nat):Fn:=⟨1,2,(.cons (.ret (.bi .sum (.cons (.comp (.cl z (.cons (.v 1) .nil)) (.one 1) (.seq (.v 0)) (.yes (.cmp .ne (.ix (.v 1) (.c (.int 0))) (.c (.str [112,117,116]))))) .nil))) .nil)⟩
abbrev mC(z:Nat):Fn:=⟨1,2,(.cons (.ret (.bi .sum (.cons (.comp (.cl z (.cons (.v 1) .nil)) (.one 1) (.seq (.v 0)) (.yes (.cmp .ne (.ix (.v 1) (.c (.int 0))) (.c (.str [100,114,111,112]))))) .nil))) .nil)⟩
abbrev jV(z:Nat):Fn:=⟨1,7,(.cons (.set 1 (.lst .nil)) (.cons (.set 2 (.c (.int 0))) (.cons (.set 3 (.c (.str []))) (.cons (.set 4 (.c (.str []))) (.cons (.for (.many [5,6]) (.seq (.v 0)) (.cons (.iff (.cmp .eq (.v 5) (.c (.str [100,114,111,112]))) (.cons (.set 3 (.bin .add (.v 3) (.v 6))) .nil) (.cons (.iff (.cmp .eq (.v 5) (.c (.str [112,117,116]))) (.cons (.set 4 (.bin .add (.v 4) (.v 6))) .nil) (.cons (.iff (.cmp .gt (.v 6) (.c (.int 0))) (.cons (.iff (.orr (.cmp .ne (.v 3) (.c (.str []))) (.cmp .ne (.v 4) (.c (.str [])))) (.cons (.exp (.me .extend (.v 1) (.cons (.cl z (.cons (.v 2) (.cons (.v 3) (.cons (.v 4) .nil)))) .nil))) (.cons (.set 2 (.c (.int 0))) (.cons (.set 3 (.c (.str []))) (.cons (.set 4 (.c (.str []))) .nil)))) .nil) (.cons (.set 2 (.bin .add (.v 2) (.v 6))) .nil)) .nil) .nil)) .nil)) .nil)) (.cons (.exp (.me .extend (.v 1) (.cons (.cl z (.cons (.v 2) (.cons (.v 3) (.cons (.v 4) .nil)))) .nil))) (.cons (.ret (.iU (.v 1))) .nil)))))))⟩
abbrev qg:S:=.iff (.cmp .ne (.v 1) (.c (.str []))) (.cons (.exp (.me .append (.v 3) (.cons (.tup (.cons (.c (.str [100,114,111,112])) (.cons (.v 1) .nil))) .nil))) .nil) .nil
abbrev lP:S:=.iff (.cmp .ne (.v 2) (.c (.str []))) (.cons (.exp (.me .append (.v 3) (.cons (.tup (.cons (.c (.str [112,117,116])) (.cons (.v 2) .nil))) .nil))) .nil) .nil
abbrev jJ:S:=.ret (.v 3)
abbrev eY:Fn:=⟨3,4,(.cons (.set 3 (.lst .nil)) (.cons (.iff (.cmp .gt (.v 0) (.c (.int 0))) (.cons (.exp (.me .append (.v 3) (.cons (.tup (.cons (.c (.str [107,101,101,112])) (.cons (.v 0) .nil))) .nil))) .nil) .nil) (.cons qg (.cons lP (.cons jJ .nil)))))⟩
def Pt.n:Pt->Nat
 |.keep n=>n
 |.put s=>s.length
 |.drop s=>s.length
def tot(c:U2):Nat:=(c.map Pt.n).sum
def eS(a b:U2):tot (a++b)=tot a+tot b:=by simp[tot]
def aZ(p:Pt)(c:U2):tot (p :: c)=p.n+tot c:=by simp[tot]
def fB:Pt->Bool
 |.put _=>true
 |_=>false
def ek:Pt->Bool
 |.drop _=>true
 |_=>false
def cZ:Pt->Bool
 |.keep _=>true
 |_=>false
def bJ(c:U2):Nat:=tot (c.filter λp=>!fB p)
def iy(c:U2):Nat:=tot (c.filter λp=>!ek p)
def cst(c:U2):Nat:=tot (c.filter λp=>!cZ p)
section
variable{F:List Fn}{w n aC i:Nat}
def gF(z:F[i]?=some eg)(p:Pt)(I:p.n<=100000):run F w (n+1) i [.val p.v]=some (.int p.n,[]):=by
 cases p with
 |keep k=>exact cC z rfl (ak (bh (aG rfl (bK (cS (az rfl) (aR rfl) rfl) (aR rfl) lM) rfl) (λ_=>ak (bT (cS (az rfl) (aR rfl) rfl) ⟨rfl,rfl⟩)) nofun))
 |put s=>exact cC z rfl (ak (bh (aG rfl (bK (cS (az rfl) (aR rfl) rfl) (aR rfl) lM) rfl) nofun (λ_=>aQ (ak (bT (gg (ay (cS (az rfl) (aR rfl) rfl) aM) (aaR I)) ⟨rfl,rfl⟩)))))
 |drop s=>exact cC z rfl (ak (bh (aG rfl (bK (cS (az rfl) (aR rfl) rfl) (aR rfl) lM) rfl) nofun (λ_=>aQ (ak (bT (gg (ay (cS (az rfl) (aR rfl) rfl) aM) (aaR I)) ⟨rfl,rfl⟩)))))
def Wr(h:p∈c):p.n<=tot c:=by
 induction c with
 |nil=>simp at h
 |cons q c a=>
  rw[aZ];rcases qE h with rfl|h
  .lia
  .lia
def SA(c:U2):(c.map λp=>(p.n:Int)).sum=(tot c:Int):=by
 induction c with
 |nil=>rfl
 |cons p c a=>simp only[WL,List.sum_cons,a,aZ];lia
def AI(z:F[aC]?=some eg)(I:F[i]?=some ⟨1,2,.cons (.ret (.bi .sum (.cons (.comp (.cl aC (.cons (.v 1) .nil)) (.one 1) (.seq (.v 0)) (.yes (.cmp .ne (.ix (.v 1) (.c (.int 0))) (.c (.str word))))) .nil))) .nil⟩)(Z:∀p:Pt,∃x u,p.v=.tup [.str x,u]/\(!decide (x=word))=pr p)(c:U2)(h1:c.length<=10000)(h2:tot c<=100000):run F w (n+2) i [.val (aD c)]=some (.int (tot (c.filter pr)),[]):=by
 refine cC I rfl (ak (bT (gg (ay (jd (fZ (fC rfl) rfl) rfl (oM (e:=Pt.v) (p:=pr) (g:=λp=>.int p.n) c λp d=>?_) (cU (bR ?_))) aM) ?_) ⟨rfl,rfl⟩))
 .obtain⟨x,u,b,Yi⟩:=Z p;have a:=λfr=>cJ (fr:=fr) (gF (w:=w) (n:=n) z p (ZL (Wr d) h2));rw[b]at a;rw[b,<-Yi];exact ux rfl (aG rfl (bK (cS (az rfl) (aR rfl) rfl) (aR rfl) jI) rfl) λ_=>bg (aO rfl (az rfl) aL) (a _)
 .rw[ZF];exact ZL (acq _ _) (ZL h1 (by decide))
 .rw[Lb,sE (λp:Pt=>p.n)];show some (V.int _)=_;rw[SA]
def je(z:F[aC]?=some eg)(I:F[i]?=some (fU aC))(c:U2)(h1:c.length<=10000)(h2:tot c<=100000):run F w (n+2) i [.val (aD c)]=some (.int (bJ c),[]):=
 AI z I (λp=>by cases p<;>exact⟨_,_,rfl,rfl⟩) c h1 h2
def vJ(z:F[aC]?=some eg)(I:F[i]?=some (mC aC))(c:U2)(h1:c.length<=10000)(h2:tot c<=100000):run F w (n+2) i [.val (aD c)]=some (.int (iy c),[]):=
 AI z I (λp=>by cases p<;>exact⟨_,_,rfl,rfl⟩) c h1 h2
end
def bW(k:Nat)(g w:Ξ):U2:=(if 0<k then [.keep k]else [])++(if g=[]then []else [.drop g])++(if w=[]then []else [.put w])
def lQ(k:Nat)(g w:Ξ):(bW k g w).length<=3:=by unfold bW;split<;>split<;>split<;>simp
def qh(z:F[i]?=some eY)(k:Nat)(g x:Ξ):run F w (n+1) i [.val (.int k),.val (.str g),.val (.str x)]=some (.lst ((bW k g x).map Pt.v),[]):=by
 refine cC z rfl ?_;refine ak (ir (by repeat array_get_dec) rfl rfl ?_);have c:∀(l:T2) (d:V) (a:Fr) (i:Nat),l.length<=3->a[i]?=some (some (.own l))->iN .append i [d] a a[i]?=.ok .aU (a.set i (some (.own (l++[d])))):=λl d a i h e=>by rw[e];exact uw (by lia)
 have fin:∀l:T2,Wp (exs (run F w n) w (.cons jJ .nil) [some (.val (.int k)),some (.val (.str g)),some (.val (.str x)),some (.own l)]) λg a=>g=.ret (.lst l)/\outs 3 a=[]:=λl=>ak (bT (by repeat array_get_dec) ⟨rfl,rfl⟩);have s3:∀l:T2,l.length<=2->Wp (exs (run F w n) w (.cons lP (.cons jJ .nil)) [some (.val (.int k)),some (.val (.str g)),some (.val (.str x)),some (.own l)]) λg a=>g=.ret (.lst (l++(if x=[]then []else [Pt.put x]).map Pt.v))/\outs 3 a=[]:=λl f=>by
  refine ak (bh (by repeat array_get_dec) (λh=>?_) λh=>?_)
  .have b:x≠[]:=by simpa using h
   refine ak (iC (by (repeat array_get_dec);exact c _ _ _ _ (by lia) rfl) (aQ ?_));rw[Yl b];exact fin _
  .have b:x=[]:=by simpa using h
   refine aQ ?_;rw[gV b,aa7,ZK];exact fin _
 have s2:∀l:T2,l.length<=1->Wp (exs (run F w n) w (.cons qg (.cons lP (.cons jJ .nil))) [some (.val (.int k)),some (.val (.str g)),some (.val (.str x)),some (.own l)]) λy a=>y=.ret (.lst (l++((if g=[]then []else [Pt.drop g])++(if x=[]then []else [Pt.put x])).map Pt.v))/\outs 3 a=[]:=λl f=>by
  refine ak (bh (by repeat array_get_dec) (λh=>?_) λh=>?_)
  .have b:g≠[]:=by simpa using h
   refine ak (iC (by (repeat array_get_dec);exact c _ _ _ _ (by lia) rfl) (aQ ?_));rw[Yl b,ZQ,<-ZV];exact s3 _ (by simp;lia)
  .have b:g=[]:=by simpa using h
   refine aQ ?_;rw[gV b,aaH];exact s3 _ (by lia)
 refine ak (bh (by repeat array_get_dec) (λh=>?_) λh=>?_)
 .have b:0<k:=by have:=ZU h;lia
  refine ak (iC (by (repeat array_get_dec);exact c _ _ _ _ (by decide) rfl) (aQ ?_));unfold bW;rw[gV b,ZV];exact s2 _ (Zw 1)
 .have b:¬ 0<k:=by have:=aah h;lia
  refine aQ ?_;unfold bW;rw[Yl b];exact s2 _ (by decide)
abbrev FS:=U2×Nat×Ξ×Ξ
def bL(st:FS):Pt->FS
 |.drop s=>(st.1,st.2.1,st.2.2.1++s,st.2.2.2)
 |.put s=>(st.1,st.2.1,st.2.2.1,st.2.2.2++s)
 |.keep k=>if 0<k then (if st.2.2.1=[]/\st.2.2.2=[]then (st.1,st.2.1+k,[],[])else (st.1++bW st.2.1 st.2.2.1 st.2.2.2,k,[],[]))else st
def fD:FS:=([],0,[],[])
def dg(st:FS):U2:=st.1++bW st.2.1 st.2.2.1 st.2.2.2
def aP(c:U2):U2:=dg (c.foldl bL fD)
def Ly(p:U2)(a:Pt):(p++[a]).foldl bL fD=bL (p.foldl bL fD) a:=by simp
def yr(c:U2):∀st:FS,(c.foldl bL st).1.length<=st.1.length+3*c.length/\(c.foldl bL st).2.2.1.length<=st.2.2.1.length+tot c/\(c.foldl bL st).2.2.2.length<=st.2.2.2.length+tot c:=by
 induction c with
 |nil=>intro st;simp[tot]
 |cons p c a=>
  intro st;have h:=a (bL st p);have b:(bL st p).1.length<=st.1.length+3/\(bL st p).2.2.1.length<=st.2.2.1.length+p.n/\(bL st p).2.2.2.length<=st.2.2.2.length+p.n:=by
   have:=lQ st.2.1 st.2.2.1 st.2.2.2;cases p with
   |drop s=>simp[bL,Pt.n]
   |put s=>simp[bL,Pt.n]
   |keep k=>
    simp only[bL];split
    .split
     .simp
     .simp;lia
    .simp
  simp only[aae,ZH,aZ];lia
def gG(Z:F[bC]?=some eY)(hf:F[i]?=some (jV bC))(c:U2)(h1:c.length<=10000)(h2:tot c<=10000):run F w (n+2) i [.val (aD c)]=some (aD (aP c),[]):=by
 refine cC hf rfl ?_;refine ak (ir (by repeat array_get_dec) rfl rfl ?_);refine ak (bN (by repeat array_get_dec) rfl rfl ?_);refine ak (bN (by repeat array_get_dec) rfl rfl ?_);refine ak (bN (by repeat array_get_dec) rfl rfl ?_);refine ak (sR (fZ (fC rfl) rfl) ?_);have ext:∀(d:FS) (fr:Fr),d.1.length<=30010->iN .extend 1 [.lst ((bW d.2.1 d.2.2.1 d.2.2.2).map Pt.v)] fr (some (some (.own (d.1.map Pt.v))))=.ok .aU (fr.set 1 (some (.own ((dg d).map Pt.v)))):=λd fr h=>by
  have:=lQ d.2.1 d.2.2.1 d.2.2.2;unfold dg;rw[ZQ];exact AE (by simp;lia)
 refine jy (λp l fr=>p++l=c/\∃a b,vo a/\vo b/\fr=[some (.val (aD c)),some (.own ((p.foldl bL fD).1.map Pt.v)),some (.val (.int (p.foldl bL fD).2.1)),some (.val (.str (p.foldl bL fD).2.2.1)),some (.val (.str (p.foldl bL fD).2.2.2)),a,b]) (λp x l fr ⟨f,a,b,q,r,g⟩=>?_) (λp fr ⟨f,a,b,q,r,g⟩=>?_) c [] _ ⟨rfl,none,none,.none,.none,rfl⟩
 .subst g;obtain⟨A,B,C⟩:=yr p fD;have I:p.length+l.length+1=c.length:=by rw[<-f];simp;lia
  have G5:tot p+x.n+tot l=tot c:=by rw[<-f,eS,aZ];lia
  rw[Ly];have o:(p++[x])++l=c:=by simpa using f
  generalize p.foldl bL fD=d at *
  simp[fD]at A B C;have G:=λfr=>gq (fr:=fr) (qh (w:=w) (n:=n) Z d.2.1 d.2.2.1 d.2.2.2);have ex:=λfr=>ext d fr (by lia);cases x with
  |drop s=>
   have Z:s.length<=tot c:=by simp only[Pt.n]at G5;lia
   have J:=yl (a:=d.2.2.1) (b:=s) (by lia);refine iu (B6 rfl q rfl r) (ak (bh (by repeat array_get_dec) (λ_=>?_) λh=>absurd h (by decide)));refine ak (bN (by repeat array_get_dec) rfl rfl (aQ (aQ ?_)));rw[kX];exact⟨o,_,_,.val,.val,rfl⟩
  |put s=>
   have Z:s.length<=tot c:=by simp only[Pt.n]at G5;lia
   have J:=yl (a:=d.2.2.2) (b:=s) (by lia);refine iu (B6 rfl q rfl r) (ak (bh (by repeat array_get_dec) (zN ·) λ_=>?_));refine ak (bh (by repeat array_get_dec) (λ_=>?_) λh=>absurd h (by decide));refine ak (bN (by repeat array_get_dec) rfl rfl (aQ (aQ (aQ ?_))));rw[kX];exact⟨o,_,_,.val,.val,rfl⟩
  |keep k=>
   refine iu (B6 rfl q rfl r) (ak (bh (by repeat array_get_dec) (zN ·) λ_=>?_));refine ak (bh (by repeat array_get_dec) (zN ·) λ_=>?_);refine ak (bh (by repeat array_get_dec) (λh=>?_) λh=>?_)
   .have y:0<k:=by have:=ZU h;lia
    by_cases j:d.2.2.1=[]/\d.2.2.2=[]
    .have n1:cop .ne (.str d.2.2.1) (.str [])=some false:=by rw[jI,j.1];rfl
     have n2:cop .ne (.str d.2.2.2) (.str [])=some false:=by rw[jI,j.2];rfl
     refine iE (fY (aG rfl (by repeat array_get_dec) rfl) (aG rfl (by repeat array_get_dec) rfl)) ?_;refine ak (bN (by repeat array_get_dec) rfl rfl (aQ (aQ (aQ (aQ ?_)))));rw[kX];refine⟨o,some (.val (.str eX)),some (.val (.int k)),.val,.val,?_⟩;simp only[bL,gV y,gV j];rw[j.1,j.2];rfl
    .have K:bu (run F w (n+1)) (.orr (.cmp .ne (.v 3) (.c (.str []))) (.cmp .ne (.v 4) (.c (.str [])))) [some (.val (aD c)),some (.own (d.1.map Pt.v)),some (.val (.int d.2.1)),some (.val (.str d.2.2.1)),some (.val (.str d.2.2.2)),some (.val (.str eX)),some (.val (.int k))]=.ok true [some (.val (aD c)),some (.own (d.1.map Pt.v)),some (.val (.int d.2.1)),some (.val (.str d.2.2.1)),some (.val (.str d.2.2.2)),some (.val (.str eX)),some (.val (.int k))]:=by
      by_cases H:d.2.2.1=[]
      .have L:¬ d.2.2.2=[]:=λz=>j ⟨H,z⟩;have n1:cop .ne (.str d.2.2.1) (.str [])=some false:=by rw[jI,H];rfl
       have n2:cop .ne (.str d.2.2.2) (.str [])=some true:=by rw[jI,ZG L];rfl
       exact fY (aG rfl (by repeat array_get_dec) rfl) (aG rfl (by repeat array_get_dec) rfl)
      .have n1:cop .ne (.str d.2.2.1) (.str [])=some true:=by rw[jI,ZG H];rfl
       exact sO (aG rfl (by repeat array_get_dec) rfl)
     refine ak (bh K (λ_=>?_) λh=>absurd h (by decide));refine ak (iC (by (repeat (first|array_get_dec|exact G _|exact ex _))) ?_);refine ak (bN (by repeat array_get_dec) rfl rfl ?_);refine ak (bN (by repeat array_get_dec) rfl rfl ?_);refine ak (bN (by repeat array_get_dec) rfl rfl (aQ ?_));refine ak (bN (by repeat array_get_dec) rfl rfl (aQ (aQ (aQ (aQ ?_)))));rw[kX];refine⟨o,some (.val (.str eX)),some (.val (.int k)),.val,.val,?_⟩;simp only[bL,gV y,Yl j];rw[abx];rfl
   .have y:¬ 0<k:=by have:=aah h;lia
    refine aQ (aQ (aQ (aQ ?_)));rw[kX];refine⟨o,some (.val (.str eX)),some (.val (.int k)),.val,.val,?_⟩;simp only[bL,Yl y];rfl
 .subst g;simp at f;subst f;obtain⟨A,B,C⟩:=yr p fD;have e:aP p=dg (p.foldl bL fD):=rfl;rw[e];generalize p.foldl bL fD=d at *
  simp[fD]at A B C;have N:=lQ d.2.1 d.2.2.1 d.2.2.2;have G:=λfr=>gq (fr:=fr) (qh (w:=w) (n:=n) Z d.2.1 d.2.2.1 d.2.2.2);have ex:=λfr=>ext d fr (by lia);have M:toT (.lst ((dg d).map Pt.v))=some (aD (dg d)):=by rw[uv];exact kK (bR (by simp[dg];lia))
  refine ak (iC (by (repeat (first|array_get_dec|exact G _|exact ex _))) ?_);exact ak (bT (v5 (az rfl) M) ⟨rfl,rfl⟩)
inductive Tq where
 |at (i:Nat)|sg (c:Nat)
deriving DecidableEq
def Pt.asks:Pt->Δ
 |.keep n=>List.replicate n []
 |.drop s=>s.map λc=>[c]
 |.put _=>[]
def asks(c:U2):Δ:=c.flatMap Pt.asks
def Pt.told(k:Nat):Pt->List Tq
 |.keep n=>(List.range n).map λj=>.at (k+j)
 |.drop _=>[]
 |.put s=>s.map .sg
def told(k:Nat):U2->List Tq
 |[]=>[]
 |p :: c=>p.told k++told (k+p.asks.length) c
def fk(a b:U2):asks (a++b)=asks a++asks b:=by simp[asks]
def iF(a b:U2):∀k,told k (a++b)=told k a++told (k+(asks a).length) b:=by
 induction a with
 |nil=>intro k;simp[told,asks]
 |cons p a c=>
  intro k;simp only[aaz,told,c,ZV]
  congr 3
  simp[asks];lia
def G6(p:Pt):p.asks.length<=p.n:=by cases p<;>simp[Pt.asks,Pt.n]
def Lz(c:U2):(asks c).length<=tot c:=by
 induction c with
 |nil=>simp[asks]
 |cons p c a=>have:=G6 p;simp only[asks,List.flatMap_cons,Zx,aZ]at *;lia
def m7(c:U2):Δ×List Tq:=(asks c,told 0 c)
def Pt.word:Pt->Ξ
 |.keep _=>eX
 |.put _=>qN
 |.drop _=>m5
def sS(a b:Ξ):Bool:=!(decide (a=b) || (decide (a=qN)&&decide (b=m5)))
def lR:List Ξ->Bool
 |a :: b :: r=>sS a b&&lR (b :: r)
 |_=>true
def Qo(p:Pt):Bool:=p.n != 0
def oR(c:U2):Bool:=lR (c.map Pt.word)&&c.all Qo
def fE(k:Nat)(g x:Ξ):asks (bW k g x)=List.replicate k []++g.map λc=>[c]:=by
  unfold bW;by_cases a:0<k<;>by_cases b:g=[]<;>by_cases d:x=[]<;>simp[a,b,d,asks,Pt.asks]
  all_goals (have:k=0:=by lia
             subst this;simp)
def jf(k:Nat)(g x:Ξ)(j:Nat):told j (bW k g x)=(List.range k).map (λi=>Tq.at (j+i))++x.map Tq.sg:=by
  unfold bW;by_cases a:0<k<;>by_cases b:g=[]<;>by_cases c:x=[]<;>simp[a,b,c,told,Pt.told,Pt.asks]
  all_goals (have:k=0:=by lia
             subst this;simp)
def Cb(st:FS)(p:Pt):asks (dg (bL st p))=asks (dg st++[p])/\∀j,told j (dg (bL st p))=told j (dg st++[p]):=by
 obtain⟨ps,k,g,x⟩:=st;have c:∀a:U2,asks (a++[p])=asks a++p.asks:=λa=>by simp[asks]
 have b:∀(a:U2) j,told j (a++[p])=told j a++p.told (j+(asks a).length):=λa j=>by simp[iF,told]
 rw[c];cases p with
 |drop s=>
  refine⟨by simp[bL,dg,fk,fE,Pt.asks],λj=>?_⟩;rw[b];simp[bL,dg,iF,jf,Pt.told]
 |put s=>
  refine⟨by simp[bL,dg,fk,fE,Pt.asks],λj=>?_⟩;rw[b];simp[bL,dg,iF,jf,Pt.told]
 |keep m=>
  simp only[bL];split
  .split
   .rename_i h;obtain⟨rfl,rfl⟩:=h;refine⟨by simp[dg,fk,fE,Pt.asks],λj=>?_⟩;rw[b];simp[dg,fk,iF,jf,fE,Pt.told,List.range_add,aa5]
   .refine⟨by simp[dg,fk,fE,Pt.asks],λj=>?_⟩;rw[b];simp[dg,fk,iF,jf,fE,Pt.told,aa5]
  .rename_i h;have:m=0:=by lia
   subst this;refine⟨by simp[Pt.asks],λj=>?_⟩;rw[b];simp[Pt.told]
def sU(c:U2):∀st:FS,asks (dg (c.foldl bL st))=asks (dg st++c)/\∀j,told j (dg (c.foldl bL st))=told j (dg st++c):=by
 induction c with
 |nil=>intro st;simp
 |cons p c b=>
  intro st;obtain⟨d,f⟩:=b (bL st p);obtain⟨a,g⟩:=Cb st p;simp only[aae];have e:dg st++p :: c=(dg st++[p])++c:=by simp
  refine⟨?_,λj=>?_⟩
  .rw[d,e,fk,fk _ c,a]
  .rw[f j,e,iF,iF _ c,g j,a]
def cG(c:U2):asks (aP c)=asks c:=by
 have:=(sU c fD).1;simpa[aP,fD,dg,bW]using this
def eZ(c:U2)(j:Nat):told j (aP c)=told j c:=by
 have:=(sU c fD).2 j;simpa[aP,fD,dg,bW]using this
def m8(c:U2):m7 (aP c)=m7 c:=by simp[m7,cG,eZ]
def kps(c:U2):Nat:=tot (c.filter cZ)
def er(c:U2):(asks c).length=bJ c:=by
 induction c with
 |nil=>rfl
 |cons p c a=>cases p<;>simp[asks,bJ,tot,fB,Pt.asks,Pt.n]at a ⊢<;>lia
def yt(c:U2):∀j,(told j c).length=iy c:=by
 induction c with
 |nil=>intro j;rfl
 |cons p c a=>intro j;cases p<;>simp[told,iy,tot,ek,Pt.told,Pt.n,a]at a ⊢
def pP(n:Nat)(c:U2):bJ (.keep n :: c)=n+bJ c:=by simp[bJ,tot,fB,Pt.n]
def sV(s:Ξ)(c:U2):bJ (.drop s :: c)=s.length+bJ c:=by simp[bJ,tot,fB,Pt.n]
def pQ(s:Ξ)(c:U2):bJ (.put s :: c)=bJ c:=by simp[bJ,tot,fB,Pt.n]
def Cc(n:Nat)(c:U2):iy (.keep n :: c)=n+iy c:=by simp[iy,tot,ek,Pt.n]
def Cd(s:Ξ)(c:U2):iy (.drop s :: c)=iy c:=by simp[iy,tot,ek,Pt.n]
def Ce(s:Ξ)(c:U2):iy (.put s :: c)=s.length+iy c:=by simp[iy,tot,ek,Pt.n]
def IP(n:Nat)(c:U2):cst (.keep n :: c)=cst c:=by simp[cst,tot,cZ,Pt.n]
def IQ(s:Ξ)(c:U2):cst (.drop s :: c)=s.length+cst c:=by simp[cst,tot,cZ,Pt.n]
def IS(s:Ξ)(c:U2):cst (.put s :: c)=s.length+cst c:=by simp[cst,tot,cZ,Pt.n]
def IT(n:Nat)(c:U2):kps (.keep n :: c)=n+kps c:=by simp[kps,tot,aaM,cZ,Pt.n]
def IU(s:Ξ)(c:U2):kps (.drop s :: c)=kps c:=by simp[kps,tot,cZ,Pt.n]
def IV(s:Ξ)(c:U2):kps (.put s :: c)=kps c:=by simp[kps,tot,cZ,Pt.n]
def isAt:Tq->Bool
 |.at _=>true
 |_=>false
def Eh(c:U2):∀j,((told j c).filter isAt).length=kps c:=by
 induction c with
 |nil=>intro j;rfl
 |cons p c b=>
  intro j;have e:∀(m:Nat) (f:Nat->Nat),(((List.range m).map λi=>Tq.at (f i)).filter isAt).length=m:=λm f=>by
   rw[List.filter_eq_self.mpr]
   .simp
   .intro a d;obtain⟨i,_,rfl⟩:=List.mem_map.mp d;rfl
  have g:∀s:Ξ,((s.map Tq.sg).filter isAt).length=0:=λs=>by
   rw[List.filter_eq_nil_iff.mpr]
   .rfl
   .intro a d;obtain⟨i,_,rfl⟩:=List.mem_map.mp d;simp[isAt]
  cases p with
  |keep m=>simp only[told,Pt.told,abL,Zx,e,b,kps,tot,cZ,aaM,Z2,WL,List.sum_cons,Pt.n]
  |put s=>simp only[told,Pt.told,abL,Zx,g,b,kps,cZ,aaM];simp
  |drop s=>simp only[told,Pt.told,abL,Zx,b,kps,cZ,aaM];simp
def Ei(c:U2):(cst c:Int)=bJ c - kps c+iy c - kps c:=by
 induction c with
 |nil=>rfl
 |cons p c a=>cases p<;>simp only[IP,IQ,IS,pP,sV,pQ,Cc,Cd,Ce,IT,IU,IV]<;>lia
def Ej(c:U2):tot c+kps c=bJ c+iy c:=by
 induction c with
 |nil=>rfl
 |cons p c a=>cases p<;>simp only[aZ,Pt.n,pP,sV,pQ,Cc,Cd,Ce,IT,IU,IV]<;>lia
def yu(c:U2):bJ (aP c)=bJ c:=by rw[<-er,<-er,cG]
def qO(c:U2):iy (aP c)=iy c:=by rw[<-yt _ 0,<-yt _ 0,eZ]
def yv(c:U2):kps (aP c)=kps c:=by rw[<-Eh _ 0,<-Eh _ 0,eZ]
def qP(c:U2):cst (aP c)=cst c:=by
 have a:=Ei (aP c);have b:=Ei c;rw[yu,qO,yv]at a;lia
def dh(c:U2):tot (aP c)=tot c:=by
 have a:=Ej (aP c);have b:=Ej c;rw[yu,qO,yv]at a;lia
theorem AJ:∀(a:Δ) (b:Δ),lR (a++b)=true↔lR a=true/\lR b=true/\∀x∈a.getLast?,∀y∈b.head?,sS x y=true
 |[],b=>by simp[lR]
 |[x],[]=>by simp[lR]
 |[x],y :: b=>by simp[lR,and_comm]
 |x :: y :: a,b=>by
  have:=AJ (y :: a) b;simp only[aaz]at this ⊢;simp only[lR,yK,this,List.getLast?_cons_cons];constructor
  .rintro⟨h1,h2,h3,h4⟩;exact⟨⟨h1,h2⟩,h3,h4⟩
  .rintro⟨⟨h1,h2⟩,h3,h4⟩;exact⟨h1,h2,h3,h4⟩
def zd(k:Nat)(g x:Ξ):oR (bW k g x)=true:=by
 unfold bW;by_cases a:0<k<;>by_cases b:g=[]<;>by_cases c:x=[]<;>simp[a,b,c,oR,Qo,lR,sS,Pt.word,Pt.n,eX,qN,m5]
 all_goals lia
def yw(st:FS):Prop:=oR st.1=true/\(st.1≠[]->0<st.2.1)/\∀p∈st.1.getLast?,p.word≠eX
def LA(z:oR a=true)(I:oR b=true)(h:∀p∈a.getLast?,∀q∈b.head?,sS p.word q.word=true):oR (a++b)=true:=by
 simp only[oR,yK]at z I ⊢;refine⟨?_,by rw[List.all_append,z.2,I.2];rfl⟩;rw[ZQ,AJ];refine⟨z.1,I.1,λx c y d=>?_⟩;simp at c d;obtain⟨p,e,rfl⟩:=c;obtain⟨q,f,rfl⟩:=d;exact h p e q f
def yx(z:0<k):(bW k g x).head?=some (.keep k):=by simp[bW,z]
def LC(h:w≠eX)(z:w=qN\/w=m5):sS w eX=true:=by
 rcases z with rfl|rfl<;>decide
def LD(p:Pt):p.word=eX\/p.word=qN\/p.word=m5:=by cases p<;>simp[Pt.word]
def yy(h:yw st):oR (dg st)=true:=by
 refine LA h.1 (zd _ _ _) λp a q b=>?_;have c:st.1≠[]:=by intro z;rw[z]at a;simp at a
 rw[yx (h.2.1 c)]at b;simp at b;subst b;have d:=h.2.2 p a;exact LC d ((LD p).resolve_left d)
def yz(h:¬ (g=[]/\x=[])):∀p∈(bW k g x).getLast?,p.word≠eX:=by
 unfold bW;by_cases b:x=[]
 .have c:g≠[]:=λz=>h ⟨z,b⟩;intro p a;simp[c,b]at a;subst a;simp[Pt.word,m5,eX]
 .intro p a;simp[b]at a;subst a;simp[Pt.word,qN,eX]
def Ek(h:yw st)(p:Pt):yw (bL st p):=by
 cases p with
 |drop s=>exact h
 |put s=>exact h
 |keep k=>
  simp only[bL];split
  .rename_i b;split
   .exact⟨h.1,λz=>by lia,h.2.2⟩
   .rename_i Uj;refine⟨yy h,λ_=>b,λp a=>?_⟩;rw[List.getLast?_append]at a;cases z:(bW st.2.1 st.2.2.1 st.2.2.2).getLast? with
    |none=>
     exfalso;unfold bW at z;by_cases c:st.2.2.2=[]<;>by_cases d:st.2.2.1=[]<;>simp[c,d]at z Uj
    |some q=>
     rw[z]at a;simp at a;subst a;exact yz Uj q z
  .exact h
def ez(c:U2):oR (aP c)=true:=by
 have:∀(c:U2) (a:FS),yw a->yw (c.foldl bL a):=λc=>by
  induction c with
  |nil=>exact λa h=>h
  |cons p c b=>exact λa h=>b _ (Ek h p)
 exact yy (this c fD ⟨rfl,λz=>absurd rfl z,λp d=>by simp[fD]at d⟩)
abbrev Bl:=Ξ×Ξ
abbrev BS:=List Bl×Bl
def eF(st:BS):Pt->BS
 |.drop s=>(st.1,(st.2.1++s,st.2.2))
 |.put s=>(st.1,(st.2.1,st.2.2++s))
 |.keep 0=>st
 |.keep (n+1)=>(st.1++st.2 :: List.replicate n ([],[]),([],[]))
def qi:BS:=([],([],[]))
def blocks(c:U2):BS:=c.foldl eF qi
def mD(st:U2×Nat)(b:Bl):U2×Nat:=if b.1=[]/\b.2=[]then (st.1,st.2+1)else (st.1++bW st.2 b.1 b.2,1)
def pk(bs:List Bl):U2×Nat:=bs.foldl mD ([],0)
def G7(n:Nat):∀st:U2×Nat,(List.replicate n (([],[]):Bl)).foldl mD st=(st.1,st.2+n):=by
 induction n with
 |zero=>intro st;simp
 |succ n a=>intro st;simp[ZE,mD,a];lia
def AK(st:BS):FS:=((pk st.1).1,(pk st.1).2,st.2.1,st.2.2)
def G8(st:BS)(p:Pt):bL (AK st) p=AK (eF st p):=by
 obtain⟨bs,g,x⟩:=st;cases p with
 |drop s=>rfl
 |put s=>rfl
 |keep n=>
  cases n with
  |zero=>rfl
  |succ n=>
   have e:pk (bs++(g,x) :: List.replicate n ([],[]))=((mD (pk bs) (g,x)).1,(mD (pk bs) (g,x)).2+n):=by
    simp only[pk,abg,aae,G7]
   simp only[AK,eF,e,bL,Nat.succ_pos,Z2,mD];by_cases h:g=[]/\x=[]
   .simp[h];lia
   .lia
def G9(c:U2):∀st:BS,c.foldl bL (AK st)=AK (c.foldl eF st):=by
 induction c with
 |nil=>intro st;rfl
 |cons p c a=>intro st;simp only[aae,G8,a]
def jK(c:U2):aP c=dg (AK (blocks c)):=by
 unfold aP blocks;rw[<-G9];rfl
def El(st:Δ×Ξ):List Nat->Δ×Ξ
 |[]=>(st.1++[st.2],[])
 |c :: _=>(st.1,st.2++[c])
def spT(st:Δ×Ξ):Tq->Δ×Ξ
 |.at _=>(st.1++[st.2],[])
 |.sg c=>(st.1,st.2++[c])
def Em(s:Ξ):∀st,(s.map λc=>[c]).foldl El st=(st.1,st.2++s):=by
 induction s with
 |nil=>intro st;simp
 |cons c s a=>intro st;simp[El,a]
def Hf(n:Nat):∀st,(List.replicate n []).foldl El st=if n=0 then st else (st.1++st.2 :: List.replicate (n - 1) [],[]):=by
 induction n with
 |zero=>intro st;rfl
 |succ n a=>
  intro st;simp only[ZE,aae,El,a];cases n with
  |zero=>simp
  |succ n=>simp[ZE]
def En(s:Ξ):∀st,(s.map Tq.sg).foldl spT st=(st.1,st.2++s):=by
 induction s with
 |nil=>intro st;simp
 |cons c s a=>intro st;simp[spT,a]
def Hg(n:Nat):∀(k:Nat) st,((List.range n).map λj=>Tq.at (k+j)).foldl spT st=if n=0 then st else (st.1++st.2 :: List.replicate (n - 1) [],[]):=by
 induction n with
 |zero=>intro k st;rfl
 |succ n a=>
  intro k st;rw[aaG,ZQ,abg,a];cases n with
  |zero=>simp[spT]
  |succ n=>
   simp[spT];rw[<-abB,ZE]
def sW(c:U2):∀st:BS,(asks c).foldl El (st.1.map Prod.fst,st.2.1)=((c.foldl eF st).1.map Prod.fst,(c.foldl eF st).2.1):=by
 induction c with
 |nil=>intro st;rfl
 |cons p c a=>
  intro st;have e:asks (p :: c)=p.asks++asks c:=by simp[asks]
  rw[e,abg,aae,<-a]
  congr 1
  cases p with
  |drop s=>simp[Pt.asks,Em,eF]
  |put s=>simp[Pt.asks,eF]
  |keep n=>
   simp only[Pt.asks,Hf];cases n with
   |zero=>rfl
   |succ n=>simp[eF]
def sX(c:U2):∀(k:Nat) (st:BS),(told k c).foldl spT (st.1.map Prod.snd,st.2.2)=((c.foldl eF st).1.map Prod.snd,(c.foldl eF st).2.2):=by
 induction c with
 |nil=>intro k st;rfl
 |cons p c a=>
  intro k st;rw[told,abg,aae,<-a (k+p.asks.length)]
  congr 1
  cases p with
  |put s=>simp[Pt.told,En,eF]
  |drop s=>simp[Pt.told,eF]
  |keep n=>
   simp only[Pt.told,Hg];cases n with
   |zero=>rfl
   |succ n=>simp[eF]
theorem AL{α β:Type}:∀{a b:List (α×β)},a.map Prod.fst=b.map Prod.fst->a.map Prod.snd=b.map Prod.snd->a=b
 |[],[],_,_=>rfl
 |[],_ :: _,h,_=>by simp at h
 |_ :: _,[],h,_=>by simp at h
 | (x,y) :: a,(x',y') :: b,h1,h2=>by
  simp at h1 h2;rw[h1.1,h2.1,AL h1.2 h2.2]
def oS(h:m7 a=m7 b):blocks a=blocks b:=by
 have e:asks a=asks b:=ZJ Prod.fst h;have f:told 0 a=told 0 b:=ZJ Prod.snd h;have c:=sW a qi;have g:=sW b qi;have d:=sX a 0 qi;have i:=sX b 0 qi;rw[e,g]at c;rw[f,i]at d;have j:=ZJ Prod.fst c;have l:=ZJ Prod.snd c;have o:=ZJ Prod.fst d;have p:=ZJ Prod.snd d;exact Prod.ext (AL j.symm o.symm) (Prod.ext l.symm p.symm)
def yC(a b:U2):aP a=aP b↔m7 a=m7 b:=by
 constructor
 .intro h;rw[<-m8 a,<-m8 b,h]
 .intro h;rw[jK,jK,oS h]
def k8(a:U2):aP (aP a)=aP a:=(yC _ _).mpr (m8 a)
def Pt.sw:Pt->Pt
 |.keep n=>.keep n
 |.put s=>.drop s
 |.drop s=>.put s
def sw(c:U2):U2:=c.map Pt.sw
def vK(c:U2):∀st:BS,(sw c).foldl eF (st.1.map Prod.swap,st.2.swap)=((c.foldl eF st).1.map Prod.swap,(c.foldl eF st).2.swap):=by
 induction c with
 |nil=>intro st;rfl
 |cons p c a=>
  intro st;simp only[sw,WL,aae]at a ⊢;rw[<-a]
  congr 1
  cases p with
  |put s=>rfl
  |drop s=>rfl
  |keep n=>cases n<;>simp[Pt.sw,eF]
def LF(h:aP a=aP b):aP (sw a)=aP (sw b):=by
 have c:=oS ((yC a b).mp h);rw[jK,jK];have d:=vK a qi;have f:=vK b qi;have e:blocks (sw a)=blocks (sw b):=by
  unfold blocks at c ⊢;have z:((qi.1.map Prod.swap,qi.2.swap))=qi:=rfl;rw[z]at d f;rw[d,f,c]
 rw[e]
def Qp(c:U2):bJ (sw c)=iy c:=by
 induction c with
 |nil=>rfl
 |cons p c a=>cases p<;>simp only[sw,WL,Pt.sw,pP,sV,pQ,Cc,Cd,Ce]at a ⊢<;>lia
def aH:U2->List Nat->Bool
 |[],t=>t.isEmpty
 |.keep n :: c,t=>decide (n<=t.length)&&aH c (t.drop n)
 |.drop s :: c,t=>s.isPrefixOf t&&aH c (t.drop s.length)
 |.put _ :: c,t=>aH c t
def cg:U2->List Nat->Ξ
 |[],_=>[]
 |.keep n :: c,t=>t.take n++cg c (t.drop n)
 |.drop s :: c,t=>cg c (t.drop s.length)
 |.put s :: c,t=>s++cg c t
def aK:List Ξ->List Nat->Bool
 |[],[]=>true
 |x :: a,c :: t=>(decide (x=[]) ||decide (x=[c]))&&aK a t
 |_,_=>false
def Ep(n:Nat)(a:Δ):∀t,aK (List.replicate n []++a) t=(decide (n<=t.length)&&aK a (t.drop n)):=by
 induction n with
 |zero=>intro t;simp
 |succ n b=>
  intro t;cases t with
  |nil=>simp[ZE,aK]
  |cons c t=>simp[ZE,aK,b]
def Er(s:Ξ)(a:Δ):∀t,aK ((s.map λc=>[c])++a) t=(s.isPrefixOf t&&aK a (t.drop s.length)):=by
 induction s with
 |nil=>intro t;simp
 |cons c s b=>
  intro t;cases t with
  |nil=>simp[aK]
  |cons d t=>
   simp only[WL,aaz,aK,b,List.isPrefixOf,ZH,List.drop_succ_cons];by_cases h:c=d<;>simp[h]
def dM(c:U2):∀t,aH c t=aK (asks c) t:=by
 induction c with
 |nil=>intro t;cases t<;>rfl
 |cons p c a=>
  intro t;have e:asks (p :: c)=p.asks++asks c:=by simp[asks]
  rw[e];cases p with
  |keep n=>simp[aH,Pt.asks,Ep,a]
  |drop s=>simp[aH,Pt.asks,Er,a]
  |put s=>simp[aH,Pt.asks,a]
def m9(c:U2)(t:Ξ):aH (aP c) t=aH c t:=by rw[dM,dM,cG]
def pick(t:Ξ):Tq->Ξ
 |.at i=>(t[i]?).toList
 |.sg c=>[c]
def Et(c:U2):∀(t:Ξ) (k:Nat),cg c (t.drop k)=(told k c).flatMap (pick t):=by
 induction c with
 |nil=>intro t k;rfl
 |cons p c a=>
  intro t k;rw[told,acG,<-a];cases p with
  |put s=>
   simp only[cg,Pt.told,Pt.asks,aaI,Nat.add_zero]
   congr 1
   induction s with
   |nil=>rfl
   |cons c s a=>simp[pick]at a ⊢;exact a
  |drop s=>simp[cg,Pt.told,Pt.asks,aaZ]
  |keep n=>
   simp only[cg,Pt.told,Pt.asks,abu,aaw]
   congr 1
   induction n generalizing k with
   |zero=>simp
   |succ n b=>
    rw[aaG,ZQ,acG,<-b];rw[List.take_add_one];simp[pick]
def iO(c:U2)(t:Ξ):cg (aP c) t=cg c t:=by
 have a:=Et (aP c) t 0;have b:=Et c t 0;rw[eZ,<-b]at a;simpa using a
def Hi(c:U2):∀t,aH c t=true->aH (sw c) (cg c t)=true/\cg (sw c) (cg c t)=t:=by
 induction c with
 |nil=>intro t h;simp[aH]at h;subst h;simp[sw,aH,cg]
 |cons p c d=>
  intro t h;cases p with
  |keep n=>
   simp only[aH,yK,aac]at h;obtain⟨a,b⟩:=d _ h.2;have g:(t.take n).length=n:=by simp;lia
   simp only[sw,WL,Pt.sw,cg,aH]at a b ⊢;have e:(t.take n++cg c (t.drop n)).drop n=cg c (t.drop n):=by rw[List.drop_append_of_le_length (by lia),aam (by lia)];rfl
   have f:(t.take n++cg c (t.drop n)).take n=t.take n:=by rw[abE (by lia),List.take_take,Nat.min_self]
   rw[e,f,a,b];simp;lia
  |drop s=>
   simp only[aH,yK]at h;obtain⟨a,b⟩:=d _ h.2;simp only[sw,WL,Pt.sw,cg,aH]at a b ⊢;rw[b];refine⟨a,?_⟩;obtain⟨r,rfl⟩:=List.isPrefixOf_iff_prefix.mp h.1;simp
  |put s=>
   obtain⟨a,b⟩:=d _ h;simp only[sw,WL,Pt.sw,cg,aH]at a b ⊢;simp[a,b]
abbrev sY(z:Nat):Fn:=⟨2,4,(.cons (.set 2 (.c (.int 0))) (.cons (.for (.one 3) (.seq (.v 0)) (.cons (.iff (.an (.cmp .eq (.ix (.v 3) (.c (.int 0))) (.c (.str [100,114,111,112]))) (.cmp .ne (.sl (.v 1) (.yes (.v 2)) (.yes (.bin .add (.v 2) (.cl z (.cons (.v 3) .nil))))) (.ix (.v 3) (.c (.int 1))))) (.cons (.ret (.c (.bl false))) .nil) .nil) (.cons (.iff (.cmp .ne (.ix (.v 3) (.c (.int 0))) (.c (.str [112,117,116]))) (.cons (.set 2 (.bin .add (.v 2) (.cl z (.cons (.v 3) .nil)))) .nil) .nil) .nil))) (.cons (.ret (.cmp .eq (.v 2) (.bi .len (.cons (.v 1) .nil)))) .nil)))⟩
abbrev jW(z:Nat):Fn:=⟨1,1,(.cons (.ret (.cl z (.cons (.tup (.cons (.tup (.cons (.c (.str [107,101,101,112])) (.cons (.v 0) .nil))) .nil)) .nil))) .nil)⟩
def Qq{α:Type}(l:List α)(p k:Nat):cut l (some (p:Int)) (some ((p:Int)+k))=(l.drop p).take k:=by
 have a:¬ (p:Int)<0:=by lia
 have b:¬ (p:Int)+k<0:=by lia
 have c:((p:Int)+k).toNat=p+k:=by lia
 simp only[cut,aS,a,b,abn,c,aaX];by_cases d:p<=l.length
 .rw[aci d];by_cases f:p+k<=l.length
  .congr 1;lia
  .rw[ab5 (by lia),Z1 (by simp),Z1 (by simp;lia)]
 .have e:min p l.length=l.length:=by lia
  rw[e,aam (Zw _),aam (by lia)];simp
def pre_take{s t:Ξ}:s.isPrefixOf t=decide (t.take s.length=s):=by
 cases h:s.isPrefixOf t with
 |true=>
  obtain⟨r,rfl⟩:=List.isPrefixOf_iff_prefix.mp h;simp
 |false=>
  symm
  rw[acd];intro e;have:=List.isPrefixOf_iff_prefix.mpr (by have z:=List.take_prefix s.length t;rw[e]at z;exact z);rw[h]at this;exists this
def LG(a b:U2):bJ (a++b)=bJ a+bJ b:=by simp[bJ,tot]
def fF:∀{t:Ξ},aH c t=true->t.length=bJ c:=by
 induction c with
 |nil=>intro t h;simp[aH]at h;subst h;rfl
 |cons p c a=>
  intro t h;cases p with
  |keep n=>simp only[aH,yK,aac]at h;have:=a h.2;rw[pP];simp at this;lia
  |drop s=>
   simp only[aH,yK]at h;have b:=a h.2;obtain⟨r,rfl⟩:=List.isPrefixOf_iff_prefix.mp h.1;rw[sV];simp at b ⊢;lia
  |put s=>exact a h
section
variable{F:List Fn}{w n aC bH bC i:Nat}
def Hj(c:U2)(t:Ξ)(q:Nat)(p:Pt)(l:U2)(h:aH c t=(decide (q<=t.length)&&aH (p :: l) (t.drop q))):
  (ek p=true->(∃s,p=.drop s/\(if (t.drop q).take s.length=s then aH c t=(decide (q+s.length<=t.length)&&aH l (t.drop (q+s.length)))else aH c t=false)))/\
  (ek p=false->aH c t=(decide (q+bJ [p]<=t.length)&&aH l (t.drop (q+bJ [p])))):=by
 cases p with
 |drop s=>
  refine⟨λ_=>⟨s,rfl,?_⟩,λz=>by simp[ek]at z⟩;simp only[aH,pre_take,aaw]at h;split
  .rename_i d;rw[h];simp only[d,decide_true,acC];have f:=ZJ List.length d;simp at f;by_cases b:q<=t.length
   .by_cases a:q+s.length<=t.length
    .simp[b,a]
    .lia
   .have:¬ q+s.length<=t.length:=by lia
    simp[b,this]
  .rename_i d;rw[h];simp[d]
 |keep k=>
  refine⟨λz=>by simp[ek]at z,λ_=>?_⟩;have e:bJ [.keep k]=k:=by rfl
  rw[h,e];simp only[aH,aaw,Z4];by_cases b:q<=t.length
  .by_cases a:q+k<=t.length
   .have:k<=t.length - q:=by lia
    simp[b,a,this]
   .have:¬ k<=t.length - q:=by lia
    simp[a,this]
  .have:¬ q+k<=t.length:=by lia
   simp[b,this]
 |put s=>
  refine⟨λz=>by simp[ek]at z,λ_=>?_⟩;have e:bJ [.put s]=0:=by rw[pQ];rfl
  rw[h,e];simp[aH]
def qQ(Z:F[aC]?=some eg)(hf:F[i]?=some (sY aC))(c:U2)(t:Ξ)(h1:tot c<=10000)(h2:t.length<=10000):run F w (n+2) i [.val (aD c),.val (.str t)]=some (.bl (aH c t),[]):=by
 refine cC hf rfl ?_;refine ak (bN (by repeat array_get_dec) rfl rfl ?_);refine ak (sR (fZ (fC rfl) rfl) ?_);refine jy (λp l fr=>p++l=c/\aH c t=(decide (bJ p<=t.length)&&aH l (t.drop (bJ p)))/\∃a,vo a/\fr=[some (.val (aD c)),some (.val (.str t)),some (.val (.int (bJ p))),a]) (λp x l fr ⟨d,f,a,o,g⟩=>?_) (λp fr ⟨d,f,a,o,g⟩=>?_) c [] _ ⟨rfl,by simp[bJ,tot],none,.none,rfl⟩
 .subst g;have G5:tot p+x.n+tot l=tot c:=by rw[<-d,eS,aZ];lia
  have sz:=λfr=>cJ (fr:=fr) (gF (w:=w) (n:=n) Z x (by lia));obtain⟨k1,k2⟩:=Hj c t (bJ p) x l f;have r:(p++[x])++l=c:=by simpa using d
  have j:=LG p [x];have y:((bJ (p++[x]):Nat))=(bJ p:Int)+(bJ [x]):=by rw[j];simp
  cases x with
  |drop s=>
   obtain⟨H,e,k1⟩:=k1 rfl;cases e;have I:ji (.str t) (some (bJ p)) (some ((bJ p)+((Pt.drop s).n)))=some (.str ((t.drop (bJ p)).take s.length)):=by rw[mj];exact ZJ (λz=>some (V.str z)) (Qq t (bJ p) s.length)
   by_cases q:(t.drop (bJ p)).take s.length=s
   .rw[gV q]at k1;have B:cop .ne (.str ((t.drop (bJ p)).take s.length)) (.str s)=some false:=by rw[jI,ZO q];rfl
    refine iu (bind1 rfl o) (iE (gD (b2:=false) (aG rfl (by repeat array_get_dec) rfl) (aG rfl (by (repeat (first|array_get_dec|exact sz _))) rfl)) ?_);refine ak (bh (by repeat array_get_dec) (λ_=>?_) λh=>absurd h (by decide));refine ak (bN (by (repeat (first|array_get_dec|exact sz _))) rfl rfl (aQ (aQ ?_)));rw[kX];exact⟨r,by rw[j];exact k1,some (.val (Pt.drop s).v),.val,by rw[y];rfl⟩
   .rw[Yl q]at k1;have B:cop .ne (.str ((t.drop (bJ p)).take s.length)) (.str s)=some true:=by rw[jI,ZG q];rfl
    refine iu (bind1 rfl o) (ak (bh (b:=true) (gD (b2:=true) (aG rfl (by repeat array_get_dec) rfl) (aG rfl (by (repeat (first|array_get_dec|exact sz _))) rfl)) (λ_=>?_) λh=>absurd h (by decide)));refine ak (bT (by repeat array_get_dec) ?_);show nx _ _ _ _ _ _;rw[k1];exact⟨rfl,rfl⟩
  |keep k=>
   have k2:=k2 rfl;have A:bJ [.keep k]=k:=by rw[pP];rfl
   rw[A]at k2 j y;refine iu (bind1 rfl o) (iE (oN (aG rfl (by repeat array_get_dec) rfl)) ?_);refine ak (bh (by repeat array_get_dec) (λ_=>?_) λh=>absurd h (by decide));refine ak (bN (by (repeat (first|array_get_dec|exact sz _))) rfl rfl (aQ (aQ ?_)));rw[kX];exact⟨r,by rw[j];exact k2,some (.val (Pt.keep k).v),.val,by rw[y];rfl⟩
  |put s=>
   have k2:=k2 rfl;have A:bJ [.put s]=0:=by rw[pQ];rfl
   rw[A]at k2 j;refine iu (bind1 rfl o) (iE (oN (aG rfl (by repeat array_get_dec) rfl)) ?_);refine ak (bh (by repeat array_get_dec) (zN ·) λ_=>aQ (aQ ?_));rw[kX];exact⟨r,by rw[j];exact k2,some (.val (Pt.put s).v),.val,by rw[j];rfl⟩
 .subst g;simp at d;subst d;have e:decide ((bJ p:Int)=(t.length:Nat))=aH p t:=by
   rw[f];simp only[aH];by_cases C:bJ p=t.length
   .have:(bJ p:Int)=t.length:=by lia
    simp[this,C]
   .have:¬ (bJ p:Int)=t.length:=by lia
    simp[this];intro h;lia
  have J:cQ .len [.str t]=some (.int (t.length:Nat)):=aaR (by lia);have K:cop .eq (.int (bJ p)) (.int (t.length:Nat))=some (aH p t):=by rw[GY,e]
  have G:gM [some (.val (aD p)),some (.val (.str t)),some (.val (.int (bJ p))),a]=[some (.val (aD p)),some (.val (.str t)),some (.val (.int (bJ p))),a]:=by
   show _ :: _ :: _ :: [a.map Sl.gW]=_;rw[jz o];rfl
  refine ak (bT (v:=.bl (aH p t)) (ah:=[some (.val (aD p)),some (.val (.str t)),some (.val (.int (bJ p))),a]) ?_ ⟨rfl,rfl⟩);rw[G];repeat array_get_dec
def ze(z:F[bC]?=some eY)(I:F[bH]?=some (jV bC))(Z:F[i]?=some (jW bH))(m:Nat)(h:m<=10000):run F w (n+3) i [.val (.int m)]=some (aD (aP [.keep m]),[]):=
 cC Z rfl (ak (bT (bg (aO rfl (eE (ay (eE (ay (aR rfl) (ay (az rfl) aM)) gP) aM) sA) aL) (cJ (gG z I [.keep m] (Nat.succ_le_of_lt (Nat.zero_lt_succ _)) h))) ⟨rfl,rfl⟩))
end
def Eu(ns:Kk)(z:Int)(s:Ξ)(k:Nat):tot (kh ns z s k)<=3:=by
 have d:=mq ns (z+4*k+2) (many:=2) (by decide);unfold kh;rw[eS];have a:tot (if cD ns (z+4*k) 4=0 then [Pt.put (rep (1+cD ns (z+4*k+2) 2).toNat [[97,98,122].getD (cD ns (z+4*k+1) 3).toNat 0])]else [])<=2:=by
  split
  .simp[tot,Pt.n,rep];lia
  .simp[tot]
 cases s[k]? with
 |none=>simp[tot]at a ⊢;lia
 |some c=>
  have b:tot [if 0<cD ns (z+4*k+3) 3 then Pt.keep 1 else Pt.drop [c]]<=1:=by split<;>simp[tot,Pt.n]
  lia
theorem vL(ns:Kk)(z:Int)(s:Ξ):∀k,tot (fT ns z s k)<=3*k
 |0=>by simp[fT,tot]
 |k+1=>by
  have a:=Eu ns z s k;have b:=vL ns z s k;rw[ki,eS];lia
theorem yD:∀{a b:Δ}{t u:Ξ},aK a t=true->aK b u=true->aK (a++b) (t++u)=true
 |[],_,[],_,_,hb=>hb
 |x :: a,b,c :: t,u,ha,hb=>by
  simp only[aK,yK]at ha;simp only[aaz,aK,yK];exact⟨ha.1,yD ha.2 hb⟩
 |[],_,_ :: _,_,ha,_=>by simp[aK]at ha
 |_ :: _,_,[],_,ha,_=>by simp[aK]at ha
def LH(ns:Kk)(z:Int)(s:Ξ)(k:Nat):aK (asks (kh ns z s k)) (s[k]?).toList=true:=by
 unfold kh;rw[fk];have a:asks (if cD ns (z+4*k) 4=0 then [Pt.put (rep (1+cD ns (z+4*k+2) 2).toNat [[97,98,122].getD (cD ns (z+4*k+1) 3).toNat 0])]else [])=[]:=by
  split<;>simp[asks,Pt.asks]
 rw[a];cases s[k]? with
 |none=>simp[asks,aK]
 |some c=>simp only;split<;>simp[asks,Pt.asks,aK]
theorem Ew(ns:Kk)(z:Int)(s:Ξ):∀k,aK (asks (fT ns z s k)) (s.take k)=true
 |0=>by simp[fT,asks,aK]
 |k+1=>by
  rw[ki,fk,List.take_add_one];exact yD (Ew ns z s k) (LH ns z s k)
def LI(ns:Kk)(z:Int)(s:Ξ):aH (chg ns z s) s=true:=by
 have:=Ew ns z s (s.length+1);rw[Z1 (by lia)]at this;rw[dM];exact this
inductive At where
 |k|d (c:Nat)|p (c:Nat)
abbrev T0:=List At
def Pt.aB:Pt->T0
 |.keep n=>List.replicate n .k
 |.drop s=>s.map .d
 |.put s=>s.map .p
def aB(c:U2):T0:=c.flatMap Pt.aB
def gc(a b:U2):aB (a++b)=aB a++aB b:=by simp[aB]
def cT(p:Pt)(c:U2):aB (p :: c)=p.aB++aB c:=by simp[aB]
def yE(p:Pt):p.aB.length=p.n:=by cases p<;>simp[Pt.aB,Pt.n]
def eT(c:U2):(aB c).length=tot c:=by
 induction c with
 |nil=>rfl
 |cons p c a=>rw[cT,Zx,yE,a,aZ]
def tA:Nat->T0->List Tq
 |_,[]=>[]
 |i,.k :: a=>.at i :: tA (i+1) a
 |i,.d _ :: a=>tA (i+1) a
 |i,.p c :: a=>.sg c :: tA i a
def aA:T0->Δ
 |[]=>[]
 |.k :: a=>[] :: aA a
 |.d c :: a=>[c] :: aA a
 |.p _ :: a=>aA a
def dA:T0->List Nat->Ξ
 |[],_=>[]
 |.k :: a,t=>t.take 1++dA a (t.drop 1)
 |.d _ :: a,t=>dA a (t.drop 1)
 |.p c :: a,t=>c :: dA a t
def qj:At->At
 |.k=>.k
 |.d c=>.p c
 |.p c=>.d c
def cA:T0->Nat
 |[]=>0
 |.k :: a=>cA a
 |_ :: a=>cA a+1
theorem sZ:∀a b:T0,aA (a++b)=aA a++aA b
 |[],_=>rfl
 |.k :: a,b=>by simp[aA,sZ a b]
 |.d c :: a,b=>by simp[aA,sZ a b]
 |.p c :: a,b=>by simp[aA,sZ a b]
theorem tu:∀(a b:T0) (i:Nat),tA i (a++b)=tA i a++tA (i+(aA a).length) b
 |[],_,_=>rfl
 |.k :: a,b,i=>by simp[tA,aA,tu a b,aa5,aaZ 1]
 |.d c :: a,b,i=>by simp[tA,aA,tu a b,aa5,aaZ 1]
 |.p c :: a,b,i=>by simp[tA,aA,tu a b]
theorem tB:∀a b:T0,cA (a++b)=cA a+cA b
 |[],b=>by simp[cA]
 |.k :: a,b=>by simp[cA,tB a b]
 |.d c :: a,b=>by simp[cA,tB a b];lia
 |.p c :: a,b=>by simp[cA,tB a b];lia
def IW(p:Pt):aA p.aB=p.asks:=by
 cases p with
 |keep n=>simp only[Pt.aB,Pt.asks];induction n<;>simp_all [ZE,aA]
 |drop s=>simp only[Pt.aB,Pt.asks];induction s<;>simp_all [aA]
 |put s=>simp only[Pt.aB,Pt.asks];induction s<;>simp_all [aA]
def SD(p:Pt):∀i,tA i p.aB=p.told i:=by
 cases p with
 |keep n=>
  simp only[Pt.aB,Pt.told];induction n with
  |zero=>intro i;rfl
  |succ n a=>intro i;simp only[ZE,tA,a,abl,WL,abw];simp[Function.comp_def,aa5,aaZ 1]
 |drop s=>intro i;simp only[Pt.aB,Pt.told];induction s generalizing i<;>simp_all [tA]
 |put s=>intro i;simp only[Pt.aB,Pt.told];induction s generalizing i<;>simp_all [tA]
def SE(p:Pt):cA p.aB=cst [p]:=by
 cases p with
 |keep n=>simp only[Pt.aB];rw[IP];induction n<;>simp_all [ZE,cA,cst,tot]
 |drop s=>simp only[Pt.aB];rw[IQ];induction s<;>simp_all [cA,cst,tot]
 |put s=>simp only[Pt.aB];rw[IS];induction s<;>simp_all [cA,cst,tot]
def fq(c:U2):asks c=aA (aB c):=by
 induction c with
 |nil=>rfl
 |cons p c a=>rw[cT,sZ,IW,<-a];simp[asks]
def jA(c:U2):∀i,told i c=tA i (aB c):=by
 induction c with
 |nil=>intro i;rfl
 |cons p c a=>intro i;rw[cT,tu,SD,IW,<-a,told]
def uy(c:U2):cst c=cA (aB c):=by
 induction c with
 |nil=>rfl
 |cons p c a=>
  rw[cT,tB,SE,<-a];simp[cst,tot];cases p<;>simp[aaM,cZ]
def yF(c:U2):aB (sw c)=(aB c).map qj:=by
 induction c with
 |nil=>rfl
 |cons p c a=>
  have:aB (sw (p :: c))=p.sw.aB++aB (sw c):=by simp[aB,sw]
  rw[this,a,cT,ZQ]
  congr 1
  cases p<;>simp[Pt.sw,Pt.aB,qj,Function.comp_def]
def jB:∀(c:U2) (t:Ξ),cg c t=dA (aB c) t:=by
 have k:∀(n:Nat) (a:T0) (t:Ξ),dA (List.replicate n .k++a) t=t.take n++dA a (t.drop n):=λn=>by
  induction n with
  |zero=>intro a t;simp
  |succ n b=>
   intro a t;simp only[ZE,aaz,dA,b,aaw];cases t with
   |nil=>simp
   |cons c t=>simp[aaZ 1]
 have d:∀(s:Ξ) (a:T0) (t:Ξ),dA (s.map .d++a) t=dA a (t.drop s.length):=λs=>by
  induction s with
  |nil=>intro a t;simp
  |cons c s b=>intro a t;simp[dA,b,aaZ 1]
 have p:∀(s:Ξ) (a:T0) (t:Ξ),dA (s.map .p++a) t=s++dA a t:=λs=>by
  induction s with
  |nil=>intro a t;simp
  |cons c s b=>intro a t;simp[dA,b]
 intro c;induction c with
 |nil=>intro t;rfl
 |cons q c b=>
  intro t;rw[cT];cases q with
  |keep n=>simp only[Pt.aB,k,cg,b]
  |drop s=>simp only[Pt.aB,d,cg,b]
  |put s=>simp only[Pt.aB,p,cg,b]
def Ey:T0->Bool
 |.d _ :: _=>false
 |_=>true
inductive Th:T0->T0->T0->Prop
 |nil:Th [] [] []
 |d {a b r c}:Th a b r->Th (.d c :: a) b (.d c :: r)
 |p {a b r c}:Ey a=true->Th a b r->Th a (.p c :: b) (.p c :: r)
 |kk {a b r}:Th a b r->Th (.k :: a) (.k :: b) (.k :: r)
 |kd {a b r c}:Th a b r->Th (.k :: a) (.d c :: b) (.d c :: r)
 |pk {a b r c}:Th a b r->Th (.p c :: a) (.k :: b) (.p c :: r)
 |pd {a b r c}:Th a b r->Th (.p c :: a) (.d c :: b) r
def sub(L:List Tq):Tq->Tq
 |.at j=>L.getD j (.sg 0)
 |.sg c=>.sg c
def oU(h:L.length=j):sub (L++q :: M) (.at j)=q:=by
 subst h;simp[sub]
def Th.told(h:Th a b r):∀(i j:Nat) (L:List Tq),L.length=j->tA i r=(tA j b).map (sub (L++tA i a)):=by
 induction h with
 |nil=>intro i j L e;rfl
 |d h f=>intro i j L e;exact f (i+1) j L e
 |p _ h f=>intro i j L e;simp only[tA,WL];rw[f i j L e];rfl
 |kk h f=>
  intro i j L e;simp only[tA,WL];rw[f (i+1) (j+1) (L++[.at i]) (by simp[e]),oU e];simp
 |kd h f=>
  intro i j L e;simp only[tA];rw[f (i+1) (j+1) (L++[.at i]) (by simp[e])];simp
 |@pk _ _ _ c h f=>
  intro i j L e;simp only[tA,WL];rw[f i (j+1) (L++[.sg c]) (by simp[e]),oU e];simp
 |@pd _ _ _ c h f=>
  intro i j L e;simp only[tA];rw[f i (j+1) (L++[.sg c]) (by simp[e])];simp
def Th.back(h:Th a b r):∀(i j:Nat) (L:List Tq),L.length=j->tA i (r.map qj)=(tA j (a.map qj)).map (sub (L++tA i (b.map qj))):=by
 induction h with
 |nil=>intro i j L e;rfl
 |d h f=>intro i j L e;simp only[WL,qj,tA];rw[f i j L e];rfl
 |p _ h f=>intro i j L e;exact f (i+1) j L e
 |kk h f=>
  intro i j L e;simp only[WL,qj,tA];rw[f (i+1) (j+1) (L++[.at i]) (by simp[e]),oU e];simp
 |@kd _ _ _ c h f=>
  intro i j L e;simp only[WL,qj,tA];rw[f i (j+1) (L++[.sg c]) (by simp[e]),oU e];simp
 |pk h f=>
  intro i j L e;simp only[WL,qj,tA];rw[f (i+1) (j+1) (L++[.at i]) (by simp[e])];simp
 |@pd _ _ _ c h f=>
  intro i j L e;simp only[WL,qj,tA];rw[f i (j+1) (L++[.sg c]) (by simp[e])];simp
def Th.fit(h:Th a b r):∀t,aK (aA a) t=true->aK (aA b) (dA a t)=true->aK (aA r) t=true:=by
 induction h with
 |nil=>intro t c _;exact c
 |d h f=>
  intro t c e;cases t with
  |nil=>simp[aA,aK]at c
  |cons x t=>simp only[aA,aK,yK]at c ⊢;exact⟨c.1,f t c.2 e⟩
 |p _ h f=>intro t c e;exact f t c e
 |kk h f=>
  intro t c e;cases t with
  |nil=>simp[aA,aK]at c
  |cons x t=>simp only[aA,aK,yK,dA,aau,List.take_zero,List.drop_succ_cons,abI,List.singleton_append]at c e ⊢;exact⟨c.1,f t c.2 e.2⟩
 |kd h f=>
  intro t c e;cases t with
  |nil=>simp[aA,aK]at c
  |cons x t=>simp only[aA,aK,yK,dA,aau,List.take_zero,List.drop_succ_cons,abI,List.singleton_append]at c e ⊢;exact⟨e.1,f t c.2 e.2⟩
 |pk h f=>intro t c e;simp only[aA,dA,aK,yK]at c e ⊢;exact f t c e.2
 |pd h f=>intro t c e;simp only[aA,dA,aK,yK]at c e ⊢;exact f t c e.2
def Th.all:∀(n:Nat) (a b:T0) (t:Ξ),a.length+b.length<=n->aK (aA a) t=true->aK (aA b) (dA a t)=true->∃r,Th a b r:=by
 intro n;induction n with
 |zero=>
  intro a b t g _ _;obtain rfl:a=[]:=List.length_eq_zero_iff.mp (by lia);obtain rfl:b=[]:=List.length_eq_zero_iff.mp (by lia);exact⟨[],.nil⟩
 |succ n i=>
  intro a b t g f e;cases a with
  |nil=>
   cases b with
   |nil=>exact⟨[],.nil⟩
   |cons y b=>
    cases y with
    |p c=>obtain⟨r,h⟩:=i [] b t (by simp at g ⊢;lia) f e;exact⟨_,.p rfl h⟩
    |k=>simp[aA,dA,aK]at e
    |d c=>simp[aA,dA,aK]at e
  |cons x a=>
   by_cases j:Ey (x :: a)=true
   .cases b with
    |nil=>
     cases x with
     |d c=>exists j
     |k=>cases t<;>simp[aA,dA,aK]at f e
     |p c=>simp[aA,dA,aK]at e
    |cons y b=>
     cases y with
     |p c=>obtain⟨r,h⟩:=i (x :: a) b t (by simp at g ⊢;lia) f e;exact⟨_,.p j h⟩
     |k=>
      cases x with
      |d c=>exists j
      |k=>
       cases t with
       |nil=>simp[aA,aK]at f
       |cons z t=>
        obtain⟨r,h⟩:=i a b t (by simp at g ⊢;lia) f e;exact⟨_,.kk h⟩
      |p c=>
       obtain⟨r,h⟩:=i a b t (by simp at g ⊢;lia) f e;exact⟨_,.pk h⟩
     |d l=>
      cases x with
      |d c=>exists j
      |k=>
       cases t with
       |nil=>simp[aA,aK]at f
       |cons z t=>
        simp[aA,aK,dA]at f e;obtain⟨r,h⟩:=i a b t (by simp at g ⊢;lia) f e.2;exact⟨_,.kd h⟩
      |p c=>
       simp[aA,aK,dA]at f e;obtain⟨rfl,e⟩:=e;obtain⟨r,h⟩:=i a b t (by simp at g ⊢;lia) f e;exact⟨_,.pd h⟩
   .cases x with
    |k=>exact absurd rfl j
    |p c=>exact absurd rfl j
    |d c=>
     cases t with
     |nil=>simp[aA,aK]at f
     |cons z t=>
      simp[aA,aK]at f;obtain⟨r,h⟩:=i a b t (by simp at g ⊢;lia) f.2 e;exact⟨_,.d h⟩
def Th.done(h:Th a b r):∀t,aK (aA a) t=true->dA r t=dA b (dA a t):=by
 induction h with
 |nil=>intro t _;rfl
 |d h e=>
  intro t c;cases t with
  |nil=>simp[aA,aK]at c
  |cons x t=>simp only[aA,aK,yK]at c;exact e t c.2
 |p _ h e=>intro t c;simp only[dA];rw[e t c]
 |kk h e=>
  intro t c;cases t with
  |nil=>simp[aA,aK]at c
  |cons x t=>simp only[aA,aK,yK]at c;simp[dA,e t c.2]
 |kd h e=>
  intro t c;cases t with
  |nil=>simp[aA,aK]at c
  |cons x t=>simp only[aA,aK,yK]at c;simp[dA,e t c.2]
 |pk h e=>intro t c;simp[dA,e t c]
 |pd h e=>intro t c;simp[dA,e t c]
def Th.cost(h:Th a b r):cA r<=cA a+cA b:=by induction h<;>simp[cA]<;>lia
def Th.len(h:Th a b r):r.length<=a.length+b.length:=by induction h<;>simp<;>lia
theorem Th.ds:∀{s:Ξ}{a:T0},Th (s.map .d++a) b r->∃r',r=s.map .d++r'/\Th a b r'
 |[],a,h=>⟨r,rfl,h⟩
 |c :: s,a,h=>by
  cases h with
  |d h=>obtain⟨r',rfl,e⟩:=Th.ds h;exact⟨r',rfl,e⟩
  |p f h=>exists f
theorem Th.ps(z:Ey a=true):∀{s:Ξ}{b:T0},Th a (s.map .p++b) r->∃r',r=s.map .p++r'/\Th a b r'
 |[],b,h=>⟨r,rfl,h⟩
 |c :: s,b,h=>by
  cases h with
  |d h=>cases z
  |p _ h=>obtain⟨r',rfl,e⟩:=Th.ps z h;exact⟨r',rfl,e⟩
def Th.IX:∀{n:Nat},Th (List.replicate n .k++a) (List.replicate n .k++b) r->∃r',r=List.replicate n .k++r'/\Th a b r':=λ{n}=>by
 induction n generalizing r with
 |zero=>intro h;exact⟨r,rfl,h⟩
 |succ n c=>intro h;cases h with|kk h=>obtain⟨r',rfl,d⟩:=c h;exact⟨r',rfl,d⟩
def Th.IY:∀{s:Ξ},Th (List.replicate s.length .k++a) (s.map .d++b) r->∃r',r=s.map .d++r'/\Th a b r':=λ{s}=>by
 induction s generalizing r with
 |nil=>intro h;exact⟨r,rfl,h⟩
 |cons c s e=>intro h;cases h with|kd h=>obtain⟨r',rfl,f⟩:=e h;exact⟨r',rfl,f⟩
def Th.Yj:∀{s:Ξ},Th (s.map .p++a) (List.replicate s.length .k++b) r->∃r',r=s.map .p++r'/\Th a b r':=λ{s}=>by
 induction s generalizing r with
 |nil=>intro h;exact⟨r,rfl,h⟩
 |cons c s d=>intro h;cases h with|pk h=>obtain⟨r',rfl,e⟩:=d h;exact⟨r',rfl,e⟩
theorem Th.Uk:∀{s s':Ξ},s.length=s'.length->Th (s.map .p++a) (s'.map .d++b) r->s=s'/\Th a b r
 |[],[],_,h=>⟨rfl,h⟩
 |[],_ :: _,hl,_=>by simp at hl
 |_ :: _,[],hl,_=>by simp at hl
 |c :: s,c' :: s',hl,h=>by cases h with|pd h=>obtain⟨rfl,e⟩:=Th.Uk (by simpa using hl) h;exact⟨rfl,e⟩
def Hl(h:aH c t=true):(cg c t).length=iy c:=by
 rw[fF (Hi c t h).1,Qp]
abbrev yG(z:Nat)(Z:Nat)(I:Nat):Ss:=(.cons (.iff (.an (.v 2) (.cmp .eq (.ix (.ix (.v 2) (.neg (.c (.int 1)))) (.c (.int 0))) (.c (.str [100,114,111,112])))) (.cons (.exp (.me .append (.v 4) (.cons (.me .pop (.v 2) .nil) .nil))) .nil) (.cons (.iff (.an (.v 3) (.cmp .eq (.ix (.ix (.v 3) (.neg (.c (.int 1)))) (.c (.int 0))) (.c (.str [112,117,116])))) (.cons (.exp (.me .append (.v 4) (.cons (.me .pop (.v 3) .nil) .nil))) .nil) (.cons (.set 5 (.bi .min (.cons (.cl z (.cons (.ix (.v 2) (.neg (.c (.int 1)))) .nil)) (.cons (.cl z (.cons (.ix (.v 3) (.neg (.c (.int 1)))) .nil)) .nil)))) (.cons (.exp (.me .extend (.v 4) (.cons (.cl Z (.cons (.cl I (.cons (.v 2) (.cons (.v 5) .nil))) (.cons (.cl I (.cons (.v 3) (.cons (.v 5) .nil))) .nil))) .nil))) .nil))) .nil)) .nil)
abbrev kO(I:Nat)(Z:Nat)(z:Nat)(cY:Nat)(Cf:Nat)(gQ:Nat)(x:Nat:=0):Fn:=⟨2,6,(.cons (.iff (.cmp .ne (.cl I (.cons (.v 0) .nil)) (.cl Z (.cons (.v 1) .nil))) (.cons (.eG x) .nil) .nil) (.cons (.set 2 (.gZ (.rev (.cl z (.cons (.v 0) .nil))))) (.cons (.set 3 (.gZ (.rev (.cl z (.cons (.v 1) .nil))))) (.cons (.set 4 (.lst .nil)) (.cons (.lX (.orr (.v 2) (.v 3)) (yG cY Cf gQ)) (.cons (.ret (.cl z (.cons (.iU (.v 4)) .nil))) .nil))))))⟩
abbrev tD(x:Nat:=0):Fn:=⟨2,2,(.cons (.iff (.cmp .eq (.ix (.v 1) (.c (.int 0))) (.c (.str [107,101,101,112]))) (.cons (.ret (.lst (.cons (.v 0) .nil))) .nil) .nil) (.cons (.iff (.cmp .eq (.ix (.v 0) (.c (.int 0))) (.c (.str [107,101,101,112]))) (.cons (.ret (.lst (.cons (.v 1) .nil))) .nil) .nil) (.cons (.iff (.cmp .ne (.ix (.v 0) (.c (.int 1))) (.ix (.v 1) (.c (.int 1)))) (.cons (.eG x) .nil) .nil) (.cons (.ret (.lst .nil)) .nil))))⟩
abbrev ko(z:Nat)(I:Nat):Fn:=⟨2,3,(.cons (.set 2 (.cl z (.cons (.me .pop (.v 0) .nil) (.cons (.v 1) .nil)))) (.cons (.iff (.cmp .gt (.cl I (.cons (.ix (.v 2) (.c (.int 1))) .nil)) (.c (.int 0))) (.cons (.exp (.me .append (.v 0) (.cons (.ix (.v 2) (.c (.int 1))) .nil))) .nil) .nil) (.cons (.ret (.ix (.v 2) (.c (.int 0)))) .nil)))⟩
abbrev iG:Fn:=⟨2,3,(.cons (.set 2 (.ix (.v 0) (.c (.int 0)))) (.cons (.iff (.cmp .eq (.v 2) (.c (.str [107,101,101,112]))) (.cons (.ret (.tup (.cons (.tup (.cons (.v 2) (.cons (.v 1) .nil))) (.cons (.tup (.cons (.v 2) (.cons (.bin .sub (.ix (.v 0) (.c (.int 1))) (.v 1)) .nil))) .nil)))) .nil) .nil) (.cons (.ret (.tup (.cons (.tup (.cons (.v 2) (.cons (.sl (.ix (.v 0) (.c (.int 1))) .no (.yes (.v 1))) .nil))) (.cons (.tup (.cons (.v 2) (.cons (.sl (.ix (.v 0) (.c (.int 1))) (.yes (.v 1)) .no) .nil))) .nil)))) .nil)))⟩
def Pt.tk(m:Nat):Pt->Pt
 |.keep _=>.keep m
 |.put s=>.put (s.take m)
 |.drop s=>.drop (s.take m)
def Pt.dp(m:Nat):Pt->Pt
 |.keep k=>.keep (k - m)
 |.put s=>.put (s.drop m)
 |.drop s=>.drop (s.drop m)
def IZ{α:Type}(l:List α)(m:Nat):cut l none (some (m:Int))=l.take m:=by
 have a:¬ (m:Int)<0:=by lia
 simp only[cut,aS,a,abn,aaX,abI,Nat.sub_zero];by_cases h:m<=l.length
 .rw[aci h]
 .rw[ab5 (by lia),Z1 (Zw _),Z1 (by lia)]
def Ja{α:Type}(l:List α)(m:Nat):cut l (some (m:Int)) none=l.drop m:=by
 have a:¬ (m:Int)<0:=by lia
 simp only[cut,aS,a,abn,aaX];by_cases h:m<=l.length
 .rw[aci h,Z1 (by simp)]
 .rw[ab5 (by lia),aam (Zw _),aam (by lia)];simp
section
variable{F:List Fn}{w n cH aC dm bf bH bC dO bz i:Nat}
def Cg(I:F[i]?=some iG)(p:Pt)(m:Nat)(h:m<=p.n):run F w (n+1) i [.val p.v,.val (.int m)]=some (.tup [(p.tk m).v,(p.dp m).v],[]):=by
 refine cC I rfl ?_;cases p with
 |keep k=>
  refine ak (bN (by repeat array_get_dec) rfl rfl ?_);refine ak (bh (by repeat array_get_dec) (λ_=>?_) λh=>absurd h (by decide));refine ak (bT (by repeat array_get_dec) ⟨?_,rfl⟩);have:k - m=((k - m:Nat):Int):=by simp only[Pt.n]at h;lia
  exact ZJ (λz=>Fl.ret (V.tup [V.tup [V.str eX,V.int m],V.tup [V.str eX,V.int z]])) this
 |put s=>
  have a:ji (.str s) none (some m)=some (.str (s.take m)):=by rw[mj,IZ]
  have b:ji (.str s) (some m) none=some (.str (s.drop m)):=by rw[mj,Ja]
  refine ak (bN (by repeat array_get_dec) rfl rfl ?_);refine ak (bh (by repeat array_get_dec) (zN ·) λ_=>aQ ?_);exact ak (bT (by repeat array_get_dec) ⟨rfl,rfl⟩)
 |drop s=>
  have a:ji (.str s) none (some m)=some (.str (s.take m)):=by rw[mj,IZ]
  have b:ji (.str s) (some m) none=some (.str (s.drop m)):=by rw[mj,Ja]
  refine ak (bN (by repeat array_get_dec) rfl rfl ?_);refine ak (bh (by repeat array_get_dec) (zN ·) λ_=>aQ ?_);exact ak (bT (by repeat array_get_dec) ⟨rfl,rfl⟩)
def uz(m:Nat)(p:Pt):(p.dp m).n=p.n - m:=by cases p<;>simp[Pt.dp,Pt.n]
def k9(z:F[aC]?=some eg)(I:F[cH]?=some iG)(Z:F[i]?=some (ko cH aC))(L:T2)(p:Pt)(m:Nat)(h:m<=p.n)(hn:p.n<=100000)(hL:L.length<=10000):
  run F w (n+2) i [.bor (L++[p.v]),.val (.int m)]=some ((p.tk m).v,[L++if 0<p.n - m then [(p.dp m).v]else []]):=by
 refine cC Z rfl ?_;have b:=λfr=>call2 (fr:=fr) (Cg (w:=w) (n:=n) I p m h);have c:=λfr=>cJ (fr:=fr) (gF (w:=w) (n:=n) z (p.dp m) (by rw[uz];lia));have d:∀fr:Fr,iN .pop 0 [] fr (some (some (.bor (L++[p.v]))))=.ok p.v (fr.set 0 (some (.bor L))):=λfr=>Lq;have e:∀fr:Fr,iN .append 0 [(p.dp m).v] fr (some (some (.bor L)))=.ok .aU (fr.set 0 (some (.bor (L++[(p.dp m).v])))):=λfr=>Lp (by lia);refine ak (bN (by (repeat (first|array_get_dec|exact d _|exact b _))) rfl rfl ?_);refine ak (bh (by (repeat (first|array_get_dec|exact c _))) (λh=>?_) λh=>?_)
 .have a:=ZU h;rw[uz]at a;rw[gV (by lia)];refine ak (iC (by (repeat (first|array_get_dec|exact e _))) (aQ ?_));exact ak (bT (by repeat array_get_dec) ⟨rfl,rfl⟩)
 .have a:=aah h;rw[uz]at a;rw[Yl (by lia),ZK];exact aQ (ak (bT (by repeat array_get_dec) ⟨rfl,rfl⟩))
def ng:Pt->Pt->Option (U2)
 |l,.keep _=>some [l]
 |.keep _,g=>some [g]
 |.put s,.drop s'=>if s=s' then some []else none
 |_,_=>none
def LK(z:F[i]?=some (tD x9))(p q:Pt)(r:U2)(h:ng p q=some r):run F w (n+1) i [.val p.v,.val q.v]=some (.lst (r.map Pt.v),[]):=by
 refine cC z rfl ?_;cases q with
 |keep k=>
  simp only[ng,abS]at h;subst h;refine ak (bh (by repeat array_get_dec) (λ_=>?_) λh=>absurd h (by decide));exact ak (bT (by repeat array_get_dec) ⟨rfl,rfl⟩)
 |put s=>
  cases p<;>simp[ng]at h
  subst h;refine ak (bh (by repeat array_get_dec) (zN ·) λ_=>aQ ?_);refine ak (bh (by repeat array_get_dec) (λ_=>?_) λh=>absurd h (by decide));exact ak (bT (by repeat array_get_dec) ⟨rfl,rfl⟩)
 |drop a=>
  cases p with
  |keep k=>
   simp only[ng,abS]at h;subst h;refine ak (bh (by repeat array_get_dec) (zN ·) λ_=>aQ ?_);refine ak (bh (by repeat array_get_dec) (λ_=>?_) λh=>absurd h (by decide));exact ak (bT (by repeat array_get_dec) ⟨rfl,rfl⟩)
  |drop s=>simp[ng]at h
  |put s=>
   simp only[ng]at h;split at h
   .rename_i b
    exists h
    refine ak (bh (by repeat array_get_dec) (zN ·) λ_=>aQ ?_);refine ak (bh (by repeat array_get_dec) (zN ·) λ_=>aQ ?_);refine ak (bh (by repeat array_get_dec) (λh=>?_) λ_=>aQ ?_)
    .simp at h
    .exact ak (bT (by repeat array_get_dec) ⟨rfl,rfl⟩)
   ·exists h
def eU:eK (.lst (l++[v])) (.int (-1))=some v:=by rw[pI,Qg];simp
def jL:truthy (.lst (l++[v]))=true:=by simp
def tE(e:fr[i]?=some (some (.own l)))(h:P f [.bor l,.val b]=some (v,[l'])):cz P f [.inl i,.inr b] fr=.ok v (fr.set i (some (.own l'))):=by
 have a:lent fr i=some (.bor l):=by rw[AD,e];rfl
 simp[cz,bO,args,a,h,back,e,Sl.with]
def fG(h:oR c=true):∀p∈c,0<p.n:=λp a=>by
 simp only[oR,yK,List.all_eq_true]at h;have:=h.2 p a;simp only[Qo,bne_iff_ne,ne_eq]at this;lia
theorem eV:∀{c:U2},(∀p∈c,0<p.n)->c.length<=tot c
 |[],_=>by simp[tot]
 |p :: c,h=>by
  have b:=h p (by simp);have d:=eV (c:=c) λq a=>h q (by simp[a]);rw[aZ,ZH];lia
def tF{p:Pt}(h:m<=p.n):(p.tk m).aB++(p.dp m).aB=p.aB/\(p.tk m).n=m:=by
 cases p with
 |keep k=>simp only[Pt.n]at h;simp[Pt.tk,Pt.dp,Pt.aB,Pt.n,h]
 |put s=>simp only[Pt.n]at h;simp[Pt.tk,Pt.dp,Pt.aB,Pt.n,h,<-ZQ]
 |drop s=>simp only[Pt.n]at h;simp[Pt.tk,Pt.dp,Pt.aB,Pt.n,h,<-ZQ]
def jl(m:Nat)(p:Pt):U2:=if 0<p.n - m then [p.dp m]else []
def pR(h:m<=p.n):p.aB=(p.tk m).aB++aB (jl m p):=by
 rw[<- (tF h).1]
 congr 1
 unfold jl;split
 .simp[aB]
 .rename_i hz;have:(p.dp m).aB.length=0:=by rw[yE,uz];lia
  rw[List.length_eq_zero_iff.mp this];rfl
def pT(m:Nat)(p:Pt):∀q∈jl m p,0<q.n:=λq a=>by
 unfold jl at a;split at a
 .simp at a;subst a;rw[uz];lia
 .simp at a
def AM(m:Nat)(p:Pt)(A:U2):((jl m p++A).map Pt.v).reverse=(A.map Pt.v).reverse++if 0<p.n - m then [(p.dp m).v]else []:=by
 unfold jl;split<;>simp
def iP(m:Nat)(p:Pt):tot (jl m p)=p.n - m:=by
 unfold jl;split
 .simp[tot,uz]
 .simp[tot];lia
def pU:ek (p.tk m)=ek p/\fB (p.tk m)=fB p:=by cases p<;>exact⟨rfl,rfl⟩
def Qs(p q:Pt)(Z:ek p=false)(I:fB q=false)(z:p.n=q.n)(h:Th (p.aB++A) (q.aB++B) r):∃m r',ng p q=some m/\m.length<=1/\r=aB m++r'/\Th A B r':=by
 cases p with
 |drop s=>exists Z
 |keep k=>
  cases q with
  |put s=>exists I
  |keep b=>subst z;obtain⟨r',rfl,a⟩:=Th.IX h;exact⟨[.keep k],r',rfl,by simp,by simp[aB,Pt.aB],a⟩
  |drop s=>subst z;obtain⟨r',rfl,a⟩:=Th.IY h;exact⟨[.drop s],r',rfl,by simp,by simp[aB,Pt.aB],a⟩
 |put s=>
  cases q with
  |put c=>exists I
  |keep b=>subst z;obtain⟨r',rfl,a⟩:=Th.Yj h;exact⟨[.put s],r',rfl,by simp,by simp[aB,Pt.aB],a⟩
  |drop c=>obtain⟨rfl,a⟩:=Th.Uk z h;exact⟨[],r,by simp[ng],by simp,by simp[aB],a⟩
structure Tn(one other c:U2)(t:Ξ):Prop where
 Zs:aP c=c
 fit:aH c t=true
 dn:cg c t=cg other (cg one t)
 Zt:told 0 c=(told 0 other).map (sub (told 0 one))
 Zu:told 0 (sw c)=(told 0 (sw one)).map (sub (told 0 (sw other)))
 cs:cst c<=cst one+cst other
 tt:tot c<=tot one+tot other
 ln:c.length<=tot c
 th:∃ps,c=aP ps/\Th (aB (aP one)) (aB (aP other)) (aB ps)
def SG(h1:aH one t=true)(h2:aH other (cg one t)=true)(h:Th (aB (aP one)) (aB (aP other)) (aB ps)):Tn one other (aP ps) t:=by
 have f1:aK (aA (aB (aP one))) t=true:=by rw[<-fq,cG,<-dM];exact h1
 have f2:aK (aA (aB (aP other))) (dA (aB (aP one)) t)=true:=by rw[<-fq,cG,<-jB,iO,<-dM];exact h2
 have b:=h.back 0 0 [] rfl;rw[<-yF,<-yF,<-yF,<-jA,<-jA,<-jA]at b;have a:=λc i=>by
  have:=ZJ (told i) (LF (k8 c));rwa [eZ,eZ]at this
 refine⟨k8 _,?_,?_,?_,?_,?_,?_,eV (fG (ez _)),ps,rfl,h⟩
 .rw[m9,dM,fq];exact h.fit t f1 f2
 .rw[iO,jB,h.done t f1,<-jB,iO,<-jB,iO]
 .have:=h.told 0 0 [] rfl;rw[<-jA,<-jA,<-jA,eZ,eZ]at this;rw[eZ];exact this
 .rw[a,<-a one,<-a other];exact b
 .have:=h.cost;rw[<-uy,<-uy,<-uy,qP,qP]at this;rw[qP];exact this
 .have:=h.len;rw[eT,eT,eT,dh,dh]at this;rw[dh];exact this
section
variable{x9:Nat}(hs:F[aC]?=some eg)(hp:F[cH]?=some iG)(ht:F[bf]?=some (ko cH aC))(hm:F[dm]?=some (tD x9)){one other:U2}{r:T0}{N:Nat}(hN:N<=5000)
def gj(one other A B C:U2)(a:Tx):Fr:=[some (.val (aD one)),some (.val (aD other)),some (.own (A.map Pt.v).reverse),some (.own (B.map Pt.v).reverse),some (.own (C.map Pt.v)),a]
inductive Qt(one other:U2)(r:T0)(N k:Nat)(fr:Fr):Prop
 |mk (A B C:U2) (r':T0) (a:Tx) (c0:Th (aB A) (aB B) r') (c1:aB C++r'=r) (c2:∀p∈A,0<p.n) (c3:∀p∈B,0<p.n) (c4:C.length+k<=N) (c5:k=tot A+tot B) (c6:vo a) (c7:fr=gj one other A B C a):Qt one other r N k fr
include hs hp ht hm hN
def Ez(aC dm bf:Nat):Ss:=(.cons (.set 5 (.bi .min (.cons (.cl aC (.cons (.ix (.v 2) (.neg (.c (.int 1)))) .nil)) (.cons (.cl aC (.cons (.ix (.v 3) (.neg (.c (.int 1)))) .nil)) .nil)))) (.cons (.exp (.me .extend (.v 4) (.cons (.cl dm (.cons (.cl bf (.cons (.v 2) (.cons (.v 5) .nil))) (.cons (.cl bf (.cons (.v 3) (.cons (.v 5) .nil))) .nil))) .nil))) .nil))
def yH(aC dm bf:Nat):Ss:=.cons (.iff (.an (.v 3) (.cmp .eq (.ix (.ix (.v 3) (.neg (.c (.int 1)))) (.c (.int 0))) (.c (.str [112,117,116])))) (.cons (.exp (.me .append (.v 4) (.cons (.me .pop (.v 3) .nil) .nil))) .nil) (Ez aC dm bf)) .nil
def yI(one other:U2)(r:T0)(N t:Nat)(g:Fl)(fr:Fr):Prop:=g=.nx/\∃j,j<t/\Qt one other r N j fr
omit hs hp ht hm hN in
theorem EA{C:U2}(z:C.length<=5000)(d:Pt)(fr:Fr):iN .append 4 [d.v] fr (some (some (.own (C.map Pt.v))))=.ok .aU (fr.set 4 (some (.own ((C++[d]).map Pt.v)))):=by
 rw[ZQ];exact uw (by simp;lia)
omit hs hp ht hm in
theorem yJ(A B C:U2)(s:Ξ)(r':T0)(a:Tx)(h:Th (aB A) (aB (.put s :: B)) r')(I:Ey (aB A)=true)(Z:aB C++r'=r)(hA:∀p∈A,0<p.n)(z:∀p∈(.put s :: B),0<p.n)(hk:C.length+(tot A+tot (.put s :: B))<=N)(ha:vo a):
  Wp (exs (run F w (n+2)) w (yH aC dm bf) (gj one other A (.put s :: B) C a)) (yI one other r N (tot A+tot (.put s :: B))):=by
 have b:C.length<=5000:=by lia
 rw[cT]at h;obtain⟨c,d,e⟩:=Th.ps I h;have f:=z (.put s) (by simp);unfold gj;rw[WL,Z0];refine ak (bh (gD (aG rfl (az rfl) jL) (by (repeat (first|array_get_dec|exact eU)))) (λ_=>?_) λh=>absurd h (by decide));refine ak (iC (by (repeat (first|array_get_dec|exact pK|exact EA b _ _))) (aQ (aQ ?_)));refine⟨rfl,tot A+tot B,by rw[aZ];lia,A,B,C++[.put s],c,a,e,?_,hA,λx g=>z x (by simp[g]),?_,rfl,ha,rfl⟩
 .rw[<-Z,d,gc];simp[aB,Pt.aB]
 .rw[aZ]at hk;simp;lia
omit hN in
theorem Qu(A B C z:U2)(p q:Pt)(m:Nat)(a:Tx)(mn:cQ .min [.int p.n,.int q.n]=some (.int m))(I:m<=p.n)(Z:m<=q.n)(lp:p.n<=5000)(lq:q.n<=5000)(lA:A.length<=5000)(lB:B.length<=5000)(lC:C.length+z.length<=10000)(e1:ng (p.tk m) (q.tk m)=some z)(ha:vo a)(Q:Fl->Fr->Prop)(hQ:Q .nx (gj one other (jl m p++A) (jl m q++B) (C++z) (some (.val (.int m))))):Wp (exs (run F w (n+2)) w (Ez aC dm bf) (gj one other (p :: A) (q :: B) C a)) Q:=by
 have d:=λfr=>cJ (fr:=fr) (gF (F:=F) (w:=w) (n:=n+1) hs p (ZL lp (by decide)));have e:=λfr=>cJ (fr:=fr) (gF (F:=F) (w:=w) (n:=n+1) hs q (ZL lq (by decide)));have b:=k9 (F:=F) (w:=w) (n:=n) hs hp ht (A.map Pt.v).reverse p m I (by lia) (by simp;lia);have c:=k9 (F:=F) (w:=w) (n:=n) hs hp ht (B.map Pt.v).reverse q m Z (by lia) (by simp;lia);rw[<-AM]at b c;have f:=λfr=>call2 (fr:=fr) (LK (F:=F) (w:=w) (n:=n+1) hm _ _ z e1);have ex:∀fr:Fr,iN .extend 4 [.lst (z.map Pt.v)] fr (some (some (.own (C.map Pt.v))))=.ok .aU (fr.set 4 (some (.own ((C++z).map Pt.v)))):=λfr=>by
  rw[ZQ];exact AE (by simp;lia)
 unfold gj at hQ ⊢;rw[WL,Z0,WL,Z0];refine ak (bN (by (repeat (first|array_get_dec|exact eU|exact d _|exact e _))) rfl (iw rfl ha) ?_);exact ak (iC (by (repeat (first|array_get_dec|exact tE rfl b|exact tE rfl c|exact f _|exact ex _))) (aQ hQ))
theorem Hq(A B C:U2)(p q:Pt)(r':T0)(a:Tx)(hd:ek p=false)(hq:fB q=false)(h:Th (aB (p :: A)) (aB (q :: B)) r')(hC:aB C++r'=r)(Z:∀x∈p :: A,0<x.n)(hB:∀x∈q :: B,0<x.n)(hk:C.length+(tot (p :: A)+tot (q :: B))<=N)(ha:vo a):
  Wp (exs (run F w (n+2)) w (yH aC dm bf) (gj one other (p :: A) (q :: B) C a)) (yI one other r N (tot (p :: A)+tot (q :: B))):=by
 have f:=Z p (by simp);have C8:=hB q (by simp);obtain⟨m,hm1,hm2,Yk⟩:∃m:Nat,m<=p.n/\m<=q.n/\(m=p.n\/m=q.n):=⟨min p.n q.n,by lia,by lia,by lia⟩
 have g:cQ .min [.int p.n,.int q.n]=some (.int m):=by
  rw[D9];split
  .congr 2;lia
  .congr 2;lia
 rw[aZ,aZ]at hk;have G:=eV (c:=A) λx b=>Z x (by simp[b]);have H:=eV (c:=B) λx b=>hB x (by simp[b]);have j:Th ((p.tk m).aB++aB (jl m p++A)) ((q.tk m).aB++aB (jl m q++B)) r':=by
  rw[gc,gc,<-ZV,<-ZV,<-pR hm1,<-pR hm2,<-cT,<-cT];exact h
 obtain⟨e,l,o,I,y,z⟩:=Qs (p.tk m) (q.tk m) (by rw[pU.1];exact hd) (by rw[pU.2];exact hq) (by rw[(tF hm1).2,(tF hm2).2]) j;have fin:yI one other r N (tot (p :: A)+tot (q :: B)) .nx (gj one other (jl m p++A) (jl m q++B) (C++e) (some (.val (.int m)))):=by
  refine⟨rfl,_,?_,_,_,_,l,_,z,?_,?_,?_,?_,rfl,.val,rfl⟩
  .rw[eS,eS,iP,iP,aZ,aZ];lia
  .rw[gc,ZV,<-y];exact hC
  .intro x b;rcases kS b with b|b
   .exact pT m p x b
   .exact Z x (ZN _ b)
  .intro x b;rcases kS b with b|b
   .exact pT m q x b
   .exact hB x (ZN _ b)
  .rw[eS,eS,iP,iP,Zx];lia
 have d:=Qu (one:=one) (other:=other) (w:=w) (n:=n) hs hp ht hm A B C e p q m a g hm1 hm2 (by lia) (by lia) (by lia) (by lia) (by lia) o ha _ (show nx (run F w (n+2)) w .nil (yI one other r N (tot (p :: A)+tot (q :: B))) .nx _ from aQ fin);unfold gj at d ⊢;rw[WL,Z0,WL,Z0]at d ⊢;cases q with
 |put s=>exists hq
 |keep k=>exact ak (bh (gD (aG rfl (az rfl) jL) (by (repeat (first|array_get_dec|exact eU)))) (zN ·) λ_=>d)
 |drop s=>exact ak (bh (gD (aG rfl (az rfl) jL) (by (repeat (first|array_get_dec|exact eU)))) (zN ·) λ_=>d)
omit hs hp ht hm hN in
theorem Ul{b r:T0}{x:At}(h:Th [] (x :: b) r):∃c,x=.p c:=by cases h with|p=>exact⟨_,rfl⟩
omit hs hp ht hm hN in
theorem Um{a r:T0}{x:At}(h:Th (x :: a) [] r):∃c,x=.d c:=by cases h with|d=>exact⟨_,rfl⟩
theorem EB(A B C:U2)(r':T0)(a:Tx)(hne:A≠[]\/B≠[])(h:Th (aB A) (aB B) r')(hC:aB C++r'=r)(I:∀p∈A,0<p.n)(Z:∀p∈B,0<p.n)(hk:C.length+(tot A+tot B)<=N)(ha:vo a):
  Wp (exs (run F w (n+2)) w (yG aC dm bf) (gj one other A B C a)) (yI one other r N (tot A+tot B)):=by
 cases A with
 |nil=>
  cases B with
  |nil=>exact absurd hne (by simp)
  |cons q B'=>
   refine ak (bh (oN (aG rfl (az rfl) rfl)) (zN ·) λ_=>?_);have d:=Z q (by simp);cases q with
   |put s=>exact(yJ hN [] B' C s r' a h rfl hC I Z hk ha).mono λg o ⟨l,j⟩=>by subst l;exact aQ ⟨rfl,j⟩
   |keep k=>
    cases k with
    |zero=>exact absurd d (aat 0)
    |succ k=>obtain⟨c,e⟩:=Ul h;exists e
   |drop s=>
    cases s with
    |nil=>exact absurd d (aat 0)
    |cons c s=>obtain⟨c,e⟩:=Ul h;exists e
 |cons p A'=>
  have b:=I p (by simp);cases hd:ek p with
  |true=>
   cases p with
   |keep k=>exists hd
   |put s=>exists hd
   |drop s=>
    have y:C.length<=5000:=by lia
    obtain⟨z,G,H⟩:=Th.ds h;unfold gj;rw[WL,Z0];refine ak (bh (gD (aG rfl (az rfl) jL) (by (repeat (first|array_get_dec|exact eU)))) (λ_=>?_) λh=>absurd h (by decide));refine ak (iC (by (repeat (first|array_get_dec|exact pK|exact EA y _ _))) (aQ (aQ ?_)));refine⟨rfl,tot A'+tot B,by rw[aZ];lia,A',B,C++[.drop s],z,a,H,?_,λx j=>I x (by simp[j]),Z,?_,rfl,ha,rfl⟩
    .rw[<-hC,G,gc];simp[aB,Pt.aB]
    .rw[aZ]at hk;simp;lia
  |false=>
   have f:Wp (exs (run F w (n+2)) w (yH aC dm bf) (gj one other (p :: A') B C a)) (yI one other r N (tot (p :: A')+tot B)):=by
    cases B with
    |nil=>
     exfalso;rw[cT]at h;cases p with
     |drop s=>exists hd
     |keep k=>cases k with|zero=>exact absurd b (aat 0)|succ k=>obtain⟨c,e⟩:=Um (x:=.k) h;exists e
     |put s=>cases s with|nil=>exact absurd b (aat 0)|cons c s=>obtain⟨c,e⟩:=Um (x:=.p c) h;exists e
    |cons q B'=>
     cases d:fB q with
     |true=>
      have hnd:Ey (aB (p :: A'))=true:=by
       rw[cT];cases p with
       |drop s=>exists hd
       |keep k=>cases k<;>first|exact absurd b (aat 0)|rfl
       |put s=>cases s<;>first|exact absurd b (aat 0)|rfl
      cases q with
      |keep k=>exists d
      |drop s=>exists d
      |put s=>exact yJ hN (p :: A') B' C s r' a h hnd hC I Z hk ha
     |false=>exact Hq hs hp ht hm hN A' B' C p q r' a hd d h hC I Z hk ha
   replace f:=f.mono (Q':=nx (run F w (n+2)) w .nil (yI one other r N (tot (p :: A')+tot B))) λg o ⟨l,j⟩=>by subst l;exact aQ ⟨rfl,j⟩
   unfold gj at f ⊢;rw[WL,Z0]at f ⊢;cases p with
   |drop s=>exists hd
   |keep k=>exact ak (bh (gD (aG rfl (az rfl) jL) (by (repeat (first|array_get_dec|exact eU)))) (zN ·) λ_=>f)
   |put s=>exact ak (bh (gD (aG rfl (az rfl) jL) (by (repeat (first|array_get_dec|exact eU)))) (zN ·) λ_=>f)
omit hN in
theorem Hr(hst:F[bC]?=some eY)(hf:F[bH]?=some (jV bC))(hb:F[bz]?=some (fU aC))(ha:F[dO]?=some (mC aC))(EC:F[i]?=some (kO dO bz bH aC dm bf x9))(hw:5000<w)(one other:U2)(t:Ξ)(h1:aH one t=true)(h2:aH other (cg one t)=true)(b1:tot one<=2000)(b2:tot other<=2000)(l1:one.length<=2000)(l2:other.length<=2000):
  ∃c,run F w (n+3) i [.val (aD one),.val (aD other)]=some (aD c,[])/\Tn one other c t:=by
 have f1:aK (aA (aB (aP one))) t=true:=by rw[<-fq,cG,<-dM];exact h1
 have f2:aK (aA (aB (aP other))) (dA (aB (aP one)) t)=true:=by rw[<-fq,cG,<-jB,iO,<-dM];exact h2
 obtain⟨r,d⟩:=Th.all _ _ _ t (Zw _) f1 f2;have H:iy one=bJ other:=by rw[<-Hl h1,fF h2]
 have ne:cop .ne (.int (iy one)) (.int (bJ other))=some false:=by rw[B4,H];simp
 have I:=λfr=>cJ (fr:=fr) (vJ (F:=F) (w:=w) (n:=n) hs ha one (by lia) (by lia));have J:=λfr=>cJ (fr:=fr) (je (F:=F) (w:=w) (n:=n) hs hb other (by lia) (by lia));have K:=λfr=>cJ (fr:=fr) (gG (F:=F) (w:=w) (n:=n) hst hf one (by lia) (by lia));have L:=λfr=>cJ (fr:=fr) (gG (F:=F) (w:=w) (n:=n) hst hf other (by lia) (by lia));have t1:=dh one;have t2:=dh other;have g1:=eV (fG (ez one));have g2:=eV (fG (ez other));have M:dX ((aP one).map Pt.v).reverse=some (.lst ((aP one).map Pt.v).reverse):=cU (bR (by simp;lia));have P:dX ((aP other).map Pt.v).reverse=some (.lst ((aP other).map Pt.v).reverse):=cU (bR (by simp;lia));have f:Wp (exs (run F w (n+2)) w (kO dO bz bH aC dm bf x9).body (cW (kO dO bz bH aC dm bf x9) [.val (aD one),.val (aD other)])) λg fr=>∃ps,aB ps=r/\g=.ret (aD (aP ps))/\outs 2 fr=[]:=by
  refine ak (bh (by (repeat (first|array_get_dec|exact I _|exact J _))) (zN ·) λ_=>aQ ?_);refine ak (ir (l:=((aP one).map Pt.v).reverse) (sN (sQ (bg (aO rfl (az rfl) aL) (K _)) rfl) M) rfl rfl ?_);refine ak (ir (l:=((aP other).map Pt.v).reverse) (sN (sQ (bg (aO rfl (az rfl) aL) (L _)) rfl) P) rfl rfl ?_);refine ak (ir (l:=[]) (by repeat array_get_dec) rfl rfl ?_);refine ak (IK (sH (Qt one other r (tot one+tot other)) (λk fr Q=>?_) w (tot one+tot other) _ (by lia) ⟨aP one,aP other,[],r,none,d,rfl,fG (ez one),fG (ez other),by simp,by lia,.none,rfl⟩));obtain⟨A,B,C,W,a,G,j,X,Y,hk,o,ED,rfl⟩:=Q;by_cases b:A≠[]\/B≠[]
  .have y:bu (run F w (n+2)) (.orr (.v 2) (.v 3)) (gj one other A B C a)=.ok true (gj one other A B C a):=by
    cases A with
    |cons p A=>unfold gj;rw[WL,Z0];exact sO (aG rfl (az rfl) jL)
    |nil=>
     cases B with
     |nil=>simp at b
     |cons q B=>unfold gj;rw[WL,Z0];exact fY (aG rfl (az rfl) rfl) (aG rfl (az rfl) jL)
   refine⟨true,_,y,?_⟩;dsimp only;rw[gV rfl];refine(EB hs hp ht hm (N:=tot one+tot other) (by lia) A B C W a b G j X Y (by lia) ED).mono λg fr ⟨Z,hx⟩=>?_;subst Z o;exact hx
  .obtain⟨rfl,rfl⟩:A=[]/\B=[]:=by simpa using b
   refine⟨false,_,fY (aG rfl (az rfl) rfl) (aG rfl (az rfl) rfl),?_⟩;dsimp only;rw[Yl (by decide)];cases G;rw[ZK]at j;subst j;have lC:=d.len;rw[eT,eT,eT]at lC;have mt:toT (.lst (C.map Pt.v))=some (aD C):=by rw[uv];exact kK (bR (by simp;lia))
   have c5:=λfr=>cJ (fr:=fr) (gG (F:=F) (w:=w) (n:=n) hst hf C (by lia) (by lia));have sh:gM (gj one other [] [] C a)=[some (.val (aD one)),some (.val (aD other)),some (.val (.lst [])),some (.val (.lst [])),some (.val (.lst (C.map Pt.v))),a]:=by
    show _ :: _ :: _ :: _ :: _ :: [a.map Sl.gW]=_;rw[jz ED];rfl
   refine ak (bT (v:=aD (aP C)) (ah:=[some (.val (aD one)),some (.val (aD other)),some (.val (.lst [])),some (.val (.lst [])),some (.val (.lst (C.map Pt.v))),a]) ?_ ⟨C,rfl,rfl,rfl⟩);rw[sh];exact bg (aO rfl (v5 (az rfl) mt) aL) (c5 _)
 obtain⟨g,fr,e,ps,z,rfl,ho⟩:=f;refine⟨aP ps,?_,SG h1 h2 (z▸d)⟩;rw[run_eq EC rfl,e];simp only[Ld];rw[show outs (kO dO bz bH aC dm bf x9).np fr=[]from ho]
end
end
inductive Hd(L:T2):Sl->List (T2)->Prop
 |val:Hd L (.val (.lst L)) []
 |bor:Hd L (.bor L) [L]
def scan:List Nat->List (U2)->Δ
 |t,[]=>[t]
 |t,c :: rs=>t :: scan (cg c t) rs
def Zh:At->Bool
 |.p _=>false
 |_=>true
def oX:T0->Bool
 |.p _ :: _=>false
 |_=>true
abbrev Row:=Ξ×U2
inductive Pa(f:Bool):T0->T0->T0->Prop
 |nil:Pa f [] [] []
 |p1 {a b r:T0} {c:Nat}:(f=true\/oX b=true)->Pa f a b r->Pa f (.p c :: a) b (.p c :: r)
 |p2 {a b r:T0} {c:Nat}:(f=false\/oX a=true)->Pa f a b r->Pa f a (.p c :: b) (.k :: r)
 |kk {a b r:T0}:Pa f a b r->Pa f (.k :: a) (.k :: b) (.k :: r)
 |dk {a b r:T0} {c:Nat}:Pa f a b r->Pa f (.d c :: a) (.k :: b) (.d c :: r)
 |kd {a b r:T0} {c:Nat}:Pa f a b r->Pa f (.k :: a) (.d c :: b) r
 |dd {a b r:T0} {c e:Nat}:Pa f a b r->Pa f (.d c :: a) (.d e :: b) r
def Jc(h:f=true\/oX (.p d :: b)=true)(h2:f=false\/oX (.p c :: a)=true):False:=by
 rcases h with rfl|h
 .rcases h2 with h2|h2
  ·exists h2
  .simp[oX]at h2
 .simp[oX]at h
theorem Pa.all(f:Bool):∀(n:Nat) (a b:T0) (t:Ξ),a.length+b.length<=n->aK (aA a) t=true->aK (aA b) t=true->∃r,Pa f a b r
 |0,a,b,t,hn,_,_=>by
  obtain rfl:a=[]:=List.length_eq_zero_iff.mp (by lia);obtain rfl:b=[]:=List.length_eq_zero_iff.mp (by lia);exact⟨[],.nil⟩
 |n+1,.p c :: a,b,t,hn,h1,h2=>by
  by_cases g:f=true\/oX b=true
  .obtain⟨r,h⟩:=Pa.all f n a b t (by simp at hn;lia) h1 h2;exact⟨_,.p1 g h⟩
  .cases b with
   |nil=>exact(g (.inr rfl)).elim
   |cons y b=>
    cases y with
    |k=>exact(g (.inr rfl)).elim
    |d e=>exact(g (.inr rfl)).elim
    |p e=>
     obtain⟨r,h⟩:=Pa.all f n (.p c :: a) b t (by simp at hn ⊢;lia) h1 h2;exact⟨_,.p2 (.inl (by cases f<;>simp at g ⊢)) h⟩
 |n+1,[],.p c :: b,t,hn,h1,h2=>by
  obtain⟨r,h⟩:=Pa.all f n [] b t (by simp at hn ⊢;lia) h1 h2;exact⟨_,.p2 (.inr rfl) h⟩
 |n+1,.k :: a,.p c :: b,t,hn,h1,h2=>by
  obtain⟨r,h⟩:=Pa.all f n (.k :: a) b t (by simp at hn ⊢;lia) h1 h2;exact⟨_,.p2 (.inr rfl) h⟩
 |n+1,.d e :: a,.p c :: b,t,hn,h1,h2=>by
  obtain⟨r,h⟩:=Pa.all f n (.d e :: a) b t (by simp at hn ⊢;lia) h1 h2;exact⟨_,.p2 (.inr rfl) h⟩
 |n+1,[],[],t,_,_,_=>⟨[],.nil⟩
 |n+1,[],.k :: b,t,_,h1,h2=>by cases t<;>simp[aA,aK]at h1 h2
 |n+1,[],.d e :: b,t,_,h1,h2=>by cases t<;>simp[aA,aK]at h1 h2
 |n+1,.k :: a,[],t,_,h1,h2=>by cases t<;>simp[aA,aK]at h1 h2
 |n+1,.d e :: a,[],t,_,h1,h2=>by cases t<;>simp[aA,aK]at h1 h2
 |n+1,.k :: a,.k :: b,t,hn,h1,h2=>by
  cases t with
  |nil=>simp[aA,aK]at h1
  |cons x t=>
   simp only[aA,aK,yK]at h1 h2;obtain⟨r,h⟩:=Pa.all f n a b t (by simp at hn;lia) h1.2 h2.2;exact⟨_,.kk h⟩
 |n+1,.d e :: a,.k :: b,t,hn,h1,h2=>by
  cases t with
  |nil=>simp[aA,aK]at h1
  |cons x t=>
   simp only[aA,aK,yK]at h1 h2;obtain⟨r,h⟩:=Pa.all f n a b t (by simp at hn;lia) h1.2 h2.2;exact⟨_,.dk h⟩
 |n+1,.k :: a,.d c :: b,t,hn,h1,h2=>by
  cases t with
  |nil=>simp[aA,aK]at h1
  |cons x t=>
   simp only[aA,aK,yK]at h1 h2;obtain⟨r,h⟩:=Pa.all f n a b t (by simp at hn;lia) h1.2 h2.2;exact⟨_,.kd h⟩
 |n+1,.d e :: a,.d c :: b,t,hn,h1,h2=>by
  cases t with
  |nil=>simp[aA,aK]at h1
  |cons x t=>
   simp only[aA,aK,yK]at h1 h2;obtain⟨r,h⟩:=Pa.all f n a b t (by simp at hn;lia) h1.2 h2.2;exact⟨_,.dd h⟩
structure Jn(f:Bool)(a b l m:T0)(W:Nat->List Tq):Prop where
 bk:Pa (!f) b a m
 t1:∀(i:Nat) (U:List Tq),(tA U.length m).map (sub (U++tA i a))=W i
 t2:∀(i:Nat) (U:List Tq),(tA U.length l).map (sub (U++tA i b))=W i
 ft:∀t:Ξ,aK (aA a) t=true->aK (aA b) t=true->aK (aA m) (dA a t)=true/\aK (aA l) (dA b t)=true/\dA m (dA a t)=dA l (dA b t)
def Ci(U:List Tq)(q:Tq)(L m:List Tq):(Tq.at U.length :: m).map (sub (U++q :: L))=q :: m.map (sub ((U++[q])++L)):=by
 rw[WL,oU rfl];simp
def jD(U:List Tq)(q:Tq):(U++[q]).length=U.length+1:=by simp
def Pa.join(h:Pa f a b l):∃m W,Jn f a b l m W:=by
 induction h with
 |nil=>exact⟨[],λ_=>[],.nil,λ_ _=>rfl,λ_ _=>rfl,λt h _=>by cases t<;>simp[aA,aK,dA]at h ⊢⟩
 |@p1 a b r c C h o=>
  obtain⟨m,W,J⟩:=o;refine⟨.k :: m,λi=>.sg c :: W i,.p2 (C.imp (λz=>by rw[z];rfl) id) J.bk,λi U=>?_,λi U=>?_,λt g j=>?_⟩
  .simp only[tA];rw[Ci,<-jD U (.sg c),J.t1]
  .simp only[tA,WL,sub];rw[J.t2]
  .obtain⟨q,y,A⟩:=J.ft t g j;exact⟨by simp only[aA,dA,aK];simp[q],y,by simp[dA,A]⟩
 |@p2 a b r c C h o=>
  obtain⟨m,W,J⟩:=o;refine⟨.p c :: m,λi=>.sg c :: W i,.p1 (C.imp (λz=>by rw[z];rfl) id) J.bk,λi U=>?_,λi U=>?_,λt g j=>?_⟩
  .simp only[tA,WL,sub];rw[J.t1]
  .simp only[tA];rw[Ci,<-jD U (.sg c),J.t2]
  .obtain⟨q,y,A⟩:=J.ft t g j;exact⟨q,by simp only[aA,dA,aK];simp[y],by simp[dA,A]⟩
 |@kk a b r h o=>
  obtain⟨m,W,J⟩:=o;refine⟨.k :: m,λi=>.at i :: W (i+1),.kk J.bk,λi U=>?_,λi U=>?_,λt g j=>?_⟩
  .simp only[tA];rw[Ci,<-jD U (.at i),J.t1]
  .simp only[tA];rw[Ci,<-jD U (.at i),J.t2]
  .cases t with
   |nil=>simp[aA,aK]at g
   |cons x t=>
    simp only[aA,aK,yK]at g j;obtain⟨q,y,A⟩:=J.ft t g.2 j.2;exact⟨by simp[aA,dA,aK,q],by simp[aA,dA,aK,y],by simp[dA,A]⟩
 |@dk a b r c h o=>
  obtain⟨m,W,J⟩:=o;refine⟨m,λi=>W (i+1),.kd J.bk,λi U=>?_,λi U=>?_,λt g j=>?_⟩
  .simp only[tA];exact J.t1 (i+1) U
  .simp only[tA];have:=J.t2 (i+1) (U++[.at i]);rw[jD]at this;rw[<-this];simp
  .cases t with
   |nil=>simp[aA,aK]at g
   |cons x t=>
    simp only[aA,aK,yK]at g j;obtain⟨q,y,A⟩:=J.ft t g.2 j.2;have B:=g.1;simp at B;exact⟨by simpa[dA]using q,by simp[aA,dA,aK,y,B],by simpa[dA]using A⟩
 |@kd a b r c h o=>
  obtain⟨m,W,J⟩:=o;refine⟨.d c :: m,λi=>W (i+1),.dk J.bk,λi U=>?_,λi U=>?_,λt g j=>?_⟩
  .simp only[tA];have:=J.t1 (i+1) (U++[.at i]);rw[jD]at this;rw[<-this];simp
  .simp only[tA];exact J.t2 (i+1) U
  .cases t with
   |nil=>simp[aA,aK]at g
   |cons x t=>
    simp only[aA,aK,yK]at g j;obtain⟨q,y,A⟩:=J.ft t g.2 j.2;have B:=j.1;simp at B;exact⟨by simp[aA,dA,aK,q,B],by simpa[dA]using y,by simpa[dA]using A⟩
 |@dd a b r c e h o=>
  obtain⟨m,W,J⟩:=o;refine⟨m,λi=>W (i+1),.dd J.bk,λi U=>?_,λi U=>?_,λt g j=>?_⟩
  .simp only[tA];exact J.t1 (i+1) U
  .simp only[tA];exact J.t2 (i+1) U
  .cases t with
   |nil=>simp[aA,aK]at g
   |cons x t=>
    simp only[aA,aK,yK]at g j;obtain⟨q,y,A⟩:=J.ft t g.2 j.2;exact⟨by simpa[dA]using q,by simpa[dA]using y,by simpa[dA]using A⟩
theorem Pa.Uo:∀(s:Ξ) {a b r:T0},(f=true\/oX b=true)->Pa f (s.map .p++a) b r->∃r',r=s.map .p++r'/\Pa f a b r'
 |[],a,b,r,_,h=>⟨r,rfl,h⟩
 |c :: s,a,b,r,hc,h=>by
  cases h with
  |p1 _ h=>
   obtain⟨r',rfl,e⟩:=Pa.Uo s hc h;exact⟨r',rfl,e⟩
  |p2 d h=>exact(Jc hc d).elim
theorem Pa.Up:∀(s:Ξ) {a b r:T0},(f=false\/oX a=true)->Pa f a (s.map .p++b) r->∃r',r=List.replicate s.length .k++r'/\Pa f a b r'
 |[],a,b,r,_,h=>⟨r,rfl,h⟩
 |c :: s,a,b,r,hc,h=>by
  cases h with
  |p1 d h=>exact(Jc d hc).elim
  |p2 _ h=>
   obtain⟨r',rfl,e⟩:=Pa.Up s hc h;exact⟨r',by simp[ZE],e⟩
theorem Pa.IX:∀(n:Nat) {a b r:T0},Pa f (List.replicate n .k++a) (List.replicate n .k++b) r->∃r',r=List.replicate n .k++r'/\Pa f a b r'
 |0,a,b,r,h=>⟨r,rfl,h⟩
 |n+1,a,b,r,h=>by
  cases h with
  |kk h=>obtain⟨r',rfl,c⟩:=Pa.IX n h;exact⟨r',by simp[ZE],c⟩
theorem Pa.Uq:∀(s:Ξ) {a b r:T0},Pa f (s.map .d++a) (List.replicate s.length .k++b) r->∃r',r=s.map .d++r'/\Pa f a b r'
 |[],a,b,r,h=>⟨r,rfl,h⟩
 |c :: s,a,b,r,h=>by
  cases h with
  |dk h=>obtain⟨r',rfl,e⟩:=Pa.Uq s h;exact⟨r',rfl,e⟩
theorem Pa.IY:∀(s:Ξ) {a b r:T0},Pa f (List.replicate s.length .k++a) (s.map .d++b) r->Pa f a b r
 |[],a,b,r,h=>h
 |c :: s,a,b,r,h=>by
  cases h with
  |kd h=>exact Pa.IY s h
theorem Pa.Ur:∀(s u:Ξ) {a b r:T0},s.length=u.length->Pa f (s.map .d++a) (u.map .d++b) r->Pa f a b r
 |[],[],a,b,r,_,h=>h
 |[],_ :: _,_,_,_,hl,_=>by simp at hl
 |_ :: _,[],_,_,_,hl,_=>by simp at hl
 |c :: s,e :: u,a,b,r,hl,h=>by
  cases h with
  |dd h=>exact Pa.Ur s u (by simpa using hl) h
def Pa.two(p q:Pt)(Z:fB p=false)(I:fB q=false)(z:p.n=q.n)(h:Pa f (p.aB++A) (q.aB++B) r):∃r',r=aB (if cZ q then [p]else [])++r'/\Pa f A B r':=by
 cases p with
 |put s=>exists Z
 |keep k=>
  cases q with
  |put s=>exists I
  |keep b=>subst z;obtain⟨r',rfl,a⟩:=Pa.IX k h;exact⟨r',by simp[cZ,aB,Pt.aB],a⟩
  |drop s=>subst z;exact⟨r,by simp[cZ,aB],Pa.IY s h⟩
 |drop s=>
  cases q with
  |put s=>exists I
  |keep b=>subst z;obtain⟨r',rfl,a⟩:=Pa.Uq s h;exact⟨r',by simp[cZ,aB,Pt.aB],a⟩
  |drop u=>exact⟨r,by simp[cZ,aB],Pa.Ur s u z h⟩
def mE:U2->Bool
 |.put _ :: _=>true
 |_=>false
def EE(h:∀p∈A,0<p.n):oX (aB A) = !mE A:=by
 cases A with
 |nil=>rfl
 |cons p A=>
  have a:=h p (.head _);cases p with
  |keep k=>cases k with|zero=>simp[Pt.n]at a|succ k=>rfl
  |drop s=>cases s with|nil=>simp[Pt.n]at a|cons c s=>rfl
  |put s=>cases s with|nil=>simp[Pt.n]at a|cons c s=>rfl
def Qv(z:fB q=false)(h0:0<q.n)(h:Pa f (aB []) (aB (q :: B)) r):False:=by
 cases q with
 |put s=>exists z
 |keep k=>cases k with|zero=>simp[Pt.n]at h0|succ k=>cases h
 |drop s=>cases s with|nil=>simp[Pt.n]at h0|cons c s=>cases h
def Qw(z:fB q=false)(h0:0<q.n)(h:Pa f (aB (q :: B)) (aB []) r):False:=by
 cases q with
 |put s=>exists z
 |keep k=>cases k with|zero=>simp[Pt.n]at h0|succ k=>cases h
 |drop s=>cases s with|nil=>simp[Pt.n]at h0|cons c s=>cases h
abbrev yL(z:Nat)(I:Nat)(Z:Nat):Ss:=(.cons (.iff (.an (.cl z (.cons (.v 3) .nil)) (.orr (.v 2) (.nt (.cl z (.cons (.v 4) .nil))))) (.cons (.exp (.me .append (.v 5) (.cons (.me .pop (.v 3) .nil) .nil))) .nil) (.cons (.iff (.cl z (.cons (.v 4) .nil)) (.cons (.exp (.me .append (.v 5) (.cons (.tup (.cons (.c (.str [107,101,101,112])) (.cons (.cl I (.cons (.me .pop (.v 4) .nil) .nil)) .nil))) .nil))) .nil) (.cons (.set 6 (.bi .min (.cons (.cl I (.cons (.ix (.v 3) (.neg (.c (.int 1)))) .nil)) (.cons (.cl I (.cons (.ix (.v 4) (.neg (.c (.int 1)))) .nil)) .nil)))) (.cons (.set 7 (.cl Z (.cons (.v 3) (.cons (.v 6) .nil)))) (.cons (.iff (.cmp .eq (.ix (.cl Z (.cons (.v 4) (.cons (.v 6) .nil))) (.c (.int 0))) (.c (.str [107,101,101,112]))) (.cons (.exp (.me .append (.v 5) (.cons (.v 7) .nil))) .nil) .nil) .nil)))) .nil)) .nil)
abbrev mF(I:Nat)(z:Nat)(Z:Nat)(cY:Nat)(gQ:Nat)(x:Nat:=1):Fn:=⟨3,8,(.cons (.iff (.cl I (.cons (.v 0) (.cons (.v 1) .nil))) (.cons (.eG x) .nil) .nil) (.cons (.set 3 (.gZ (.rev (.cl z (.cons (.v 0) .nil))))) (.cons (.set 4 (.gZ (.rev (.cl z (.cons (.v 1) .nil))))) (.cons (.set 5 (.lst .nil)) (.cons (.lX (.orr (.v 3) (.v 4)) (yL Z cY gQ)) (.cons (.ret (.cl z (.cons (.iU (.v 5)) .nil))) .nil))))))⟩
abbrev lS:Fn:=⟨1,1,(.cons (.ret (.an (.cmp .gt (.bi .len (.cons (.v 0) .nil)) (.c (.int 0))) (.cmp .eq (.ix (.ix (.v 0) (.neg (.c (.int 1)))) (.c (.int 0))) (.c (.str [112,117,116]))))) .nil)⟩
abbrev Hs(z:Nat)(I:Nat):Fn:=⟨2,2,(.cons (.ret (.cl z (.cons (.v 0) (.cons (.cl I (.cons (.v 1) (.cons (.v 0) (.cons (.c (.bl false)) .nil)))) .nil)))) .nil)⟩
section
variable{F:List Fn}{w n aC bC bH cH bf eB fH i:Nat}
def yM(h:F[i]?=some lS)(A:U2):run F w (n+1) i [.bor (A.map Pt.v).reverse]=some (.bl (mE A),[(A.map Pt.v).reverse]):=by
 refine cC h rfl ?_;cases A with
 |nil=>exact ak (bT (Wl (b:=false) (bK (gg (ay (az rfl) aM) pJ) (aR rfl) B5) (zN ·) λ_=>⟨rfl,rfl⟩) ⟨rfl,rfl⟩)
 |cons p A=>
  rw[WL,Z0];have a:cop .gt (.int (((A.map Pt.v).reverse++[p.v]).length:Nat)) (.int 0)=some true:=by rw[B5];exact ZJ some (ZO (by simp))
  cases p with
  |keep k=>exact ak (bT (sM (bK (gg (ay (az rfl) aM) pJ) (aR rfl) a) (bK (cS (cS (az rfl) (pL (aR rfl)) eU) (aR rfl) rfl) (aR rfl) lM)) ⟨rfl,rfl⟩)
  |drop s=>exact ak (bT (sM (bK (gg (ay (az rfl) aM) pJ) (aR rfl) a) (bK (cS (cS (az rfl) (pL (aR rfl)) eU) (aR rfl) rfl) (aR rfl) lM)) ⟨rfl,rfl⟩)
  |put s=>exact ak (bT (sM (bK (gg (ay (az rfl) aM) pJ) (aR rfl) a) (bK (cS (cS (az rfl) (pL (aR rfl)) eU) (aR rfl) rfl) (aR rfl) lM)) ⟨rfl,rfl⟩)
def Jd(e:fr[j]?=some (some (.own l)))(h:P g [.bor l]=some (v,[l'])):cz P g [.inl j] fr=.ok v (fr.set j (some (.own l'))):=by
 have a:lent fr j=some (.bor l):=by rw[AD,e];rfl
 simp[cz,bO,args,a,h,back,e,Sl.with]
def fV(one other:U2)(f:Bool)(A B C:U2)(a b:Tx):Fr:=[some (.val (aD one)),some (.val (aD other)),some (.val (.bl f)),some (.own (A.map Pt.v).reverse),some (.own (B.map Pt.v).reverse),some (.own (C.map Pt.v)),a,b]
inductive Qz(one other:U2)(f:Bool)(r:T0)(N k:Nat)(fr:Fr):Prop
 |mk (A B C:U2) (r':T0) (a b:Tx) (c0:Pa f (aB A) (aB B) r') (c1:aB C++r'=r) (c2:∀p∈A,0<p.n) (c3:∀p∈B,0<p.n) (c4:C.length+k<=N) (c5:k=tot A+tot B) (c6:vo a) (c7:vo b) (c8:fr=fV one other f A B C a b):Qz one other f r N k fr
def Us(one other:U2)(f:Bool)(r:T0)(N t:Nat)(g:Fl)(fr:Fr):Prop:=g=.nx/\∃j,j<t/\Qz one other f r N j fr
def QA(z:C.length<=5000)(d:Pt)(fr:Fr):iN .append 5 [d.v] fr (some (some (.own (C.map Pt.v))))=.ok .aU (fr.set 5 (some (.own ((C++[d]).map Pt.v)))):=by
 rw[ZQ];exact uw (by simp;lia)
variable(hs:F[aC]?=some eg)(hp:F[cH]?=some iG)(ht:F[bf]?=some (ko cH aC))(EF:F[eB]?=some lS){one other:U2}{f:Bool}{r:T0}{N:Nat}
include hs hp ht EF
theorem EG(hN:N<=5000)(A B C:U2)(r':T0)(a b:Tx)(hne:A≠[]\/B≠[])(h:Pa f (aB A) (aB B) r')(hC:aB C++r'=r)(hA:∀p∈A,0<p.n)(hB:∀p∈B,0<p.n)(hk:C.length+(tot A+tot B)<=N)(ha:vo a)(hb:vo b):
  Wp (exs (run F w (n+2)) w (yL eB aC bf) (fV one other f A B C a b)) (Us one other f r N (tot A+tot B)):=by
 have I:C.length<=5000:=by lia
 have J:∀B C a b,cz (run F w (n+2)) eB [.inl 3] (fV one other f A B C a b)=.ok (.bl (mE A)) (fV one other f A B C a b):=λB C a b=>Jd rfl (yM EF A);have H:∀A C a b,cz (run F w (n+2)) eB [.inl 4] (fV one other f A B C a b)=.ok (.bl (mE B)) (fV one other f A B C a b):=λA C a b=>Jd rfl (yM EF B);have Q:=EE hA;have nB:=EE hB;by_cases o:mE A=true/\(f=true\/mE B=false)
 .obtain⟨cA,g⟩:=o;have K:bu (run F w (n+2)) (.an (.cl eB (.cons (.v 3) .nil)) (.orr (.v 2) (.nt (.cl eB (.cons (.v 4) .nil))))) (fV one other f A B C a b)=.ok true (fV one other f A B C a b):=by
   refine gD (aG rfl (bg (kL rfl aL) (J B C a b)) cA) ?_;by_cases L:f=true
   .exact sO (aG rfl (az rfl) L)
   .exact fY (aG rfl (az rfl) (by simpa using L)) (sP (aG rfl (bg (kL rfl aL) (H A C a b)) (g.resolve_left L)))
  refine ak (bh K (λ_=>?_) λh=>absurd h (by decide));cases A with
  |nil=>exists cA
  |cons p A'=>
   cases p with
   |keep k=>exists cA
   |drop s=>exists cA
   |put s=>
    obtain⟨j,l,M⟩:=Pa.Uo s (by rw[nB];rcases g with z|z<;>simp[z]) h;have y:=hA (.put s) (.head _);unfold fV;rw[WL,Z0];refine ak (iC (pM rfl rfl (ay (pM rfl rfl aM pK) aM) (QA I (.put s) _)) (aQ (aQ ?_)));refine⟨rfl,tot A'+tot B,by rw[aZ];lia,A',B,C++[.put s],j,a,b,M,?_,λx d=>hA x (.tail _ d),hB,?_,rfl,ha,hb,rfl⟩
    .rw[<-hC,l,gc];simp[aB,Pt.aB]
    .rw[aZ]at hk;simp;lia
 .have K:bu (run F w (n+2)) (.an (.cl eB (.cons (.v 3) .nil)) (.orr (.v 2) (.nt (.cl eB (.cons (.v 4) .nil))))) (fV one other f A B C a b)=.ok false (fV one other f A B C a b):=by
   by_cases cA:mE A=true
   .have W:f=false:=by cases f with|false=>rfl|true=>exact(o ⟨cA,.inl rfl⟩).elim
    have g:mE B=true:=by cases e:mE B with|true=>rfl|false=>exact(o ⟨cA,.inr e⟩).elim
    exact gD (aG rfl (bg (kL rfl aL) (J B C a b)) cA) (fY (aG rfl (az rfl) W) (sP (b:=true) (aG rfl (bg (kL rfl aL) (H A C a b)) g)))
   .exact oN (aG rfl (bg (kL rfl aL) (J B C a b)) (by simpa using cA))
  refine ak (bh K (zN ·) λ_=>?_);by_cases g:mE B=true
  .refine ak (bh (b:=true) (aG rfl (bg (kL rfl aL) (H A C a b)) g) (λ_=>?_) λh=>absurd h (by decide));cases B with
   |nil=>exists g
   |cons q B'=>
    cases q with
    |keep k=>exists g
    |drop s=>exists g
    |put s=>
     rw[cT]at h;have SH:f=false\/oX (aB A)=true:=by
      rw[Q];cases e:mE A with
      |false=>exact .inr rfl
      |true=>exact .inl (by cases f with|false=>rfl|true=>exact(o ⟨e,.inl rfl⟩).elim)
     obtain⟨j,l,M⟩:=Pa.Up s SH h;have y:=hB (.put s) (.head _);have sl:s.length<=5000:=by rw[aZ]at hk;simp[Pt.n]at hk;lia
     have z:=λfr=>cJ (fr:=fr) (gF (F:=F) (w:=w) (n:=n+1) hs (.put s) (by simp[Pt.n];lia));unfold fV;rw[WL,Z0];refine ak (iC (pM rfl rfl (ay (eE (ay (aR rfl) (ay (bg (aO rfl (pM rfl rfl aM pK) aL) (z _)) aM)) gP) aM) (QA I (.keep s.length) _)) (aQ (aQ (aQ ?_))));refine⟨rfl,tot A+tot B',by rw[aZ];lia,A,B',C++[.keep s.length],j,a,b,M,?_,hA,λx d=>hB x (.tail _ d),?_,rfl,ha,hb,rfl⟩
     .rw[<-hC,l,gc];simp[aB,Pt.aB]
     .rw[aZ]at hk;simp[Pt.n]at hk y ⊢;lia
  .have cA:mE A=false:=by
    cases e:mE A with
    |false=>rfl
    |true=>exact(o ⟨e,.inr (by simpa using g)⟩).elim
   refine ak (bh (b:=false) (aG rfl (bg (kL rfl aL) (H A C a b)) (by simpa using g)) (zN ·) λ_=>?_);cases A with
   |nil=>
    cases B with
    |nil=>exact absurd hne (by simp)
    |cons q B'=>exact(Qv (by cases q<;>first|rfl|exact absurd rfl g) (hB q (.head _)) h).elim
   |cons p A'=>
    have G:fB p=false:=by cases p<;>first|rfl | exists cA
    cases B with
    |nil=>exact(Qw G (hA p (.head _)) h).elim
    |cons q B'=>
     have Ut:fB q=false:=by cases q<;>first|rfl|exact absurd rfl g
     have X:=hA p (.head _);have C8:=hB q (.head _);obtain⟨m,hm1,hm2,Yk⟩:∃m:Nat,m<=p.n/\m<=q.n/\(m=p.n\/m=q.n):=⟨min p.n q.n,by lia,by lia,by lia⟩
     have Y:cQ .min [.int p.n,.int q.n]=some (.int m):=by
      rw[D9];split
      .congr 2;lia
      .congr 2;lia
     rw[aZ,aZ]at hk;have lA:=eV (c:=A') λx d=>hA x (.tail _ d);have lB:=eV (c:=B') λx d=>hB x (.tail _ d);have Z:Pa f ((p.tk m).aB++aB (jl m p++A')) ((q.tk m).aB++aB (jl m q++B')) r':=by
      rw[gc,gc,<-ZV,<-ZV,<-pR hm1,<-pR hm2,<-cT,<-cT];exact h
     obtain⟨j,l,h4⟩:=Pa.two (p.tk m) (q.tk m) (by rw[pU.2];exact G) (by rw[pU.2];exact Ut) (by rw[(tF hm1).2,(tF hm2).2]) Z;have z1:=λfr=>cJ (fr:=fr) (gF (F:=F) (w:=w) (n:=n+1) hs p (by lia));have z2:=λfr=>cJ (fr:=fr) (gF (F:=F) (w:=w) (n:=n+1) hs q (by lia));have k1:=k9 (F:=F) (w:=w) (n:=n) hs hp ht (A'.map Pt.v).reverse p m hm1 (by lia) (by simp;lia);have k2:=k9 (F:=F) (w:=w) (n:=n) hs hp ht (B'.map Pt.v).reverse q m hm2 (by lia) (by simp;lia);rw[<-AM]at k1 k2;have fin:∀C' P,vo P->aB C'++j=r->C'.length<=C.length+1->Us one other f r N (tot (p :: A')+tot (q :: B')) .nx (fV one other f (jl m p++A') (jl m q++B') C' (some (.val (.int m))) P):=λC' P vb e3 e4=>by
      refine⟨rfl,_,?_,_,_,_,j,_,_,h4,e3,?_,?_,?_,rfl,.val,vb,rfl⟩
      .rw[eS,eS,iP,iP,aZ,aZ];lia
      .intro x d;rcases kS d with d|d
       .exact pT m p x d
       .exact hA x (.tail _ d)
      .intro x d;rcases kS d with d|d
       .exact pT m q x d
       .exact hB x (.tail _ d)
      .rw[eS,eS,iP,iP];lia
     unfold fV;rw[WL,Z0,WL,Z0];refine ak (bN (gg (ay (bg (aO rfl (cS (az rfl) (pL (aR rfl)) eU) aL) (z1 _)) (ay (bg (aO rfl (cS (az rfl) (pL (aR rfl)) eU) aL) (z2 _)) aM)) Y) rfl (iw rfl ha) ?_);refine ak (bN (bg (kL rfl (aO rfl (az rfl) aL)) (tE rfl k1)) rfl (iw rfl hb) ?_);cases q with
     |put s=>exists Ut
     |keep k=>
      have QB:r'=(p.tk m).aB++j:=by rw[l];simp[cZ,Pt.tk,aB]
      refine ak (bh (b:=true) (aG rfl (bK (cS (bg (kL rfl (aO rfl (az rfl) aL)) (tE rfl k2)) (aR rfl) rfl) (aR rfl) lM) rfl) (λ_=>?_) λh=>absurd h (by decide));refine ak (iC (pM rfl rfl (ay (az rfl) aM) (QA I (p.tk m) _)) (aQ (aQ (aQ (aQ ?_)))));exact fin (C++[p.tk m]) _ .val (by rw[<-hC,QB,gc];simp[aB]) (by simp)
     |drop s=>
      have QB:r'=j:=by rw[l];simp[cZ,Pt.tk,aB]
      refine ak (bh (b:=false) (aG rfl (bK (cS (bg (kL rfl (aO rfl (az rfl) aL)) (tE rfl k2)) (aR rfl) rfl) (aR rfl) lM) rfl) (zN ·) λ_=>aQ (aQ (aQ ?_)));exact aQ (fin C _ .val (by rw[<-hC,QB]) (by lia))
omit hs hp ht EF in
theorem Pa.len{f:Bool}{a b r:T0}(h:Pa f a b r):r.length<=a.length+b.length:=by
 induction h with
 |nil=>exact Zw _
 |p1 _ _ c=>simp;lia
 |p2 _ _ c=>simp;lia
 |kk _ c=>simp;lia
 |dk _ c=>simp;lia
 |kd _ c=>simp;lia
 |dd _ c=>simp;lia
theorem Ht{x9:Nat}(hst:F[bC]?=some eY)(hf:F[bH]?=some (jV bC))(hd:F[i]?=some (mF fH bH eB aC bf x9))(hw:5000<w)(one other:U2)(f:Bool)(t:Ξ)(h1:aH one t=true)(h2:aH other t=true)(b1:tot one<=2000)(b2:tot other<=2000)(l1:one.length<=2000)(l2:other.length<=2000)(hcl:run F w (n+2) fH [.val (aD one),.val (aD other)]=some (.lst [],[])):
  ∃ps,Pa f (aB (aP one)) (aB (aP other)) (aB ps)/\run F w (n+3) i [.val (aD one),.val (aD other),.val (.bl f)]=some (aD (aP ps),[]):=by
 have f1:aK (aA (aB (aP one))) t=true:=by rw[<-fq,cG,<-dM];exact h1
 have f2:aK (aA (aB (aP other))) t=true:=by rw[<-fq,cG,<-dM];exact h2
 obtain⟨r,d⟩:=Pa.all f _ _ _ t (Zw _) f1 f2;have J:=λfr=>call2 (fr:=fr) hcl;have K:=λfr=>cJ (fr:=fr) (gG (w:=w) (n:=n) hst hf one (by lia) (by lia));have L:=λfr=>cJ (fr:=fr) (gG (w:=w) (n:=n) hst hf other (by lia) (by lia));have t1:=dh one;have t2:=dh other;have g1:=eV (fG (ez one));have g2:=eV (fG (ez other));have M:dX ((aP one).map Pt.v).reverse=some (.lst ((aP one).map Pt.v).reverse):=cU (bR (by simp;lia));have P:dX ((aP other).map Pt.v).reverse=some (.lst ((aP other).map Pt.v).reverse):=cU (bR (by simp;lia));have j:Wp (exs (run F w (n+2)) w (mF fH bH eB aC bf x9).body (cW (mF fH bH eB aC bf x9) [.val (aD one),.val (aD other),.val (.bl f)])) λg fr=>∃ps,aB ps=r/\g=.ret (aD (aP ps))/\outs 3 fr=[]:=by
  refine ak (bh (aG rfl (bg (aO rfl (az rfl) (aO rfl (az rfl) aL)) (J _)) rfl) (zN ·) λ_=>aQ ?_);refine ak (ir (sN (sQ (bg (aO rfl (az rfl) aL) (K _)) rfl) M) rfl rfl ?_);refine ak (ir (sN (sQ (bg (aO rfl (az rfl) aL) (L _)) rfl) P) rfl rfl ?_);refine ak (ir (l:=[]) (ee aM gO) rfl rfl ?_);refine ak (IK (sH (Qz one other f r (tot one+tot other)) (λk fr Q=>?_) w (tot one+tot other) _ (by lia) ⟨aP one,aP other,[],r,none,none,d,rfl,fG (ez one),fG (ez other),by simp,by lia,.none,.none,rfl⟩));obtain⟨A,B,C,W,a,b,I,o,X,Y,hk,y,ED,Uu,rfl⟩:=Q;by_cases c:A≠[]\/B≠[]
  .have z:bu (run F w (n+2)) (.orr (.v 3) (.v 4)) (fV one other f A B C a b)=.ok true (fV one other f A B C a b):=by
    cases A with
    |cons p A=>unfold fV;rw[WL,Z0];exact sO (aG rfl (az rfl) jL)
    |nil=>
     cases B with
     |nil=>simp at c
     |cons q B=>unfold fV;rw[WL,Z0];exact fY (aG rfl (az rfl) rfl) (aG rfl (az rfl) jL)
   refine⟨true,_,z,?_⟩;dsimp only;rw[gV rfl];refine(EG hs hp ht EF (N:=tot one+tot other) (by lia) A B C W a b c I o X Y (by lia) ED Uu).mono λg fr ⟨G,Z⟩=>?_;subst G y;exact Z
  .obtain⟨rfl,rfl⟩:A=[]/\B=[]:=by simpa using c
   refine⟨false,_,fY (aG rfl (az rfl) rfl) (aG rfl (az rfl) rfl),?_⟩;dsimp only;rw[Yl (by decide)];cases I;rw[ZK]at o;subst o;have lC:=d.len;rw[eT,eT,eT]at lC;have mt:toT (.lst (C.map Pt.v))=some (aD C):=by rw[uv];exact kK (bR (by simp;lia))
   have c5:=λfr=>cJ (fr:=fr) (gG (F:=F) (w:=w) (n:=n) hst hf C (by lia) (by lia));have sh:gM (fV one other f [] [] C a b)=[some (.val (aD one)),some (.val (aD other)),some (.val (.bl f)),some (.val (.lst [])),some (.val (.lst [])),some (.val (.lst (C.map Pt.v))),a,b]:=by
    show _ :: _ :: _ :: _ :: _ :: _ :: [a.map Sl.gW,b.map Sl.gW]=_;rw[jz ED,jz Uu];rfl
   refine ak (bT (v:=aD (aP C)) (ah:=[some (.val (aD one)),some (.val (aD other)),some (.val (.bl f)),some (.val (.lst [])),some (.val (.lst [])),some (.val (.lst (C.map Pt.v))),a,b]) ?_ ⟨C,rfl,rfl,rfl⟩);rw[sh];exact bg (aO rfl (v5 (az rfl) mt) aL) (c5 _)
 obtain⟨g,fr,e,ps,H,G,ho⟩:=j;exact⟨ps,H▸d,cC hd rfl ⟨g,fr,e,G,ho⟩⟩
end
def QC(h1:aH one t=true)(h2:aH other t=true)(h:Pa f (aB (aP one)) (aB (aP other)) (aB ps)):aH (aP ps) (cg other t)=true:=by
 obtain⟨m,W,J⟩:=h.join;have f1:aK (aA (aB (aP one))) t=true:=by rw[<-fq,cG,<-dM];exact h1
 have f2:aK (aA (aB (aP other))) t=true:=by rw[<-fq,cG,<-dM];exact h2
 rw[m9,dM,fq,<-iO other,jB];exact(J.ft t f1 f2).2.1
def pS:T0->Ξ
 |[]=>[]
 |.p c :: a=>c :: pS a
 |_ :: a=>pS a
theorem tG:∀a b:T0,pS (a++b)=pS a++pS b
 |[],_=>rfl
 |.k :: a,b=>tG a b
 |.d _ :: a,b=>tG a b
 |.p c :: a,b=>ZJ (c :: ·) (tG a b)
def SJ(n:Nat):pS (List.replicate n .k)=[]:=by
 induction n with
 |zero=>rfl
 |succ n a=>exact a
def AR(k:Θ)(p q:Int)(s:Ξ):Ev.bU (Ev.cF k p s) q=if q=p then some s else Ev.bU k q:=by
 unfold Ev.cF;split
 .rename_i h;unfold Ev.bU;induction k with
  |nil=>simp at h
  |cons x k c=>
   simp only[WL,aal];by_cases b:x.1=p
   .rw[gV b];by_cases a:q=p
    .simp[b,a]
    .have:¬ (x.1=q):=λz=>a (by rw[<-z,b]);simp only[ZG this,Yl a];clear c h;induction k with
     |nil=>rfl
     |cons y k c=>
      simp only[WL,aal];by_cases d:y.1=p
      .rw[gV d];have:¬ (y.1=q):=λz=>a (by rw[<-z,d]);simp only[ZG this];exact c
      .rw[Yl d];by_cases hz:y.1=q
       .simp[hz]
       .simp only[ZG hz];exact c
   .rw[Yl b];by_cases a:x.1=q
    .have:¬ q=p:=λz=>b (by rw[a,z]);simp[a,this]
    .simp only[ZG a];exact c (by simpa[b]using h)
 .rename_i h;unfold Ev.bU;rw[List.find?_append];by_cases a:q=p
  .subst a;have:k.find? (λx=>decide (x.1=q))=none:=by
    rw[acL];intro x b hz;exact h (List.any_eq_true.mpr ⟨x,b,hz⟩)
   rw[this];simp
  .have:¬ p=q:=λz=>a z.symm;simp[a,this]
def KI(t:Ξ)(k:Θ):Prop:=∀p s,Ev.bU k p=some s->∃(i c:Nat),p=i/\t[i]?=some c/\s=[c]
def KI.put{t:Ξ}{k:Θ}(h:KI t k){i c:Nat}(hc:t[i]?=some c):KI t (Ev.cF k i [c]):=λp s e=>by
 rw[AR]at e;split at e
 .rename_i a;cases e;exact⟨i,c,a,hc,rfl⟩
 .exact h p s e
theorem KI.yN{t:Ξ}:∀(s:Ξ) {k:Θ}(i:Nat),KI t k->(t.drop i).take s.length=s->KI t (fQ k i s)
 |[],k,i,h,_=>h
 |c :: s,k,i,h,e=>by
  have a:i<t.length:=by
   refine Nat.lt_of_not_le λz=>?_;rw[aam z]at e;simp at e
  rw[aaq a,ZH,aau,List.cons.injEq]at e;have:=KI.yN s (i+1) (h.put (i:=i) (c:=c) (by rw[Zy a,e.1])) e.2;exact this
theorem qR:∀(s:Ξ) (k:Θ) (p:Int),(fQ k p s).length<=k.length+s.length
 |[],k,p=>by simp[fQ]
 |c :: s,k,p=>by
  have a:=qR s (Ev.cF k p [c]) (p+1);have b:(Ev.cF k p [c]).length<=k.length+1:=by unfold Ev.cF;split<;>simp
  rw[fQ,ZH];lia
def nD:U2->Nat
 |[]=>0
 |.drop s :: c=>s.length+nD c
 |_ :: c=>nD c
theorem jh:∀c:U2,nD c<=tot c
 |[]=>aas _
 |.drop s :: c=>by have:=jh c;rw[aZ];simp only[nD,Pt.n];lia
 |.put s :: c=>by have:=jh c;rw[aZ];simp only[nD,Pt.n];lia
 |.keep n :: c=>by have:=jh c;rw[aZ];simp only[nD,Pt.n];lia
theorem we:∀(c:U2) (t:Ξ) (i:Nat) (k:Θ),aH c (t.drop i)=true->KI t k->k.length+nD c<=1000->∃k',aW (c.map Pt.v) i k=some k'/\KI t k'/\k'.length<=k.length+nD c
 |[],t,i,k,_,h,_=>⟨k,rfl,h,by lia⟩
 |.keep m :: c,t,i,k,hf,h,hb=>by
  have e:aH c (t.drop (i+m))=true:=by simp only[aH,yK]at hf;have:=hf.2;rwa [aaw]at this
  obtain⟨k',a,b,d⟩:=we c t (i+m) k e h hb;refine⟨k',?_,b,d⟩;show aW (.tup [.str [107,101,101,112],.int m] :: c.map Pt.v) i k=_;rw[aW,gV rfl,<-a];congr 1
 |.put s :: c,t,i,k,hf,h,hb=>by
  obtain⟨k',a,b,d⟩:=we c t i k hf h hb;refine⟨k',?_,b,d⟩;show aW (.tup [.str [112,117,116],.str s] :: c.map Pt.v) i k=_;rw[aW,Yl (by decide),Yl (by decide)];exact a
 |.drop s :: c,t,i,k,hf,h,hb=>by
  simp only[aH,yK,aac]at hf;simp only[nD]at hb;have f:=qR s k i;obtain⟨k',a,b,d⟩:=we c t (i+s.length) (fQ k i s) (by have:=hf.2;rwa [aaw]at this) (h.yN s i (List.prefix_iff_eq_take.mp (List.isPrefixOf_iff_prefix.mp hf.1)).symm) (by lia);refine⟨k',?_,b,by simp only[nD];lia⟩;show aW (.tup [.str [100,114,111,112],.str s] :: c.map Pt.v) i k=_;rw[aW,gV rfl,gV (by lia),<-a];congr 1
section
abbrev nh(z:Nat)(I:Nat)(x:Nat:=0):Fn:=⟨2,5,(.cons (.iff (.cmp .ne (.cl z (.cons (.v 0) .nil)) (.cl z (.cons (.v 1) .nil))) (.cons (.eG x) .nil) .nil) (.cons (.set 2 (.cl I (.cons (.v 0) .nil))) (.cons (.set 3 (.cl I (.cons (.v 1) .nil))) (.cons (.ret (.comp (.v 4) (.one 4) (.seq (.bi .mS (.cons (.v 2) .nil))) (.yes (.cmp .ne (.jQ (.v 3) (.v 4) (.jP (.v 2) (.v 4))) (.jP (.v 2) (.v 4)))))) .nil))))⟩
end
theorem QD:∀s:Ξ,pS (s.map .p)=s
 |[]=>rfl
 |c :: s=>ZJ (c :: ·) (QD s)
theorem QE:∀s:Ξ,pS (s.map .d)=[]
 |[]=>rfl
 |_ :: s=>QE s
def nP(c:U2):Nat:=(pS (aB c)).length
def uA(p:Pt)(c:U2):nP (p :: c)=(pS p.aB).length+nP c:=by unfold nP;rw[cT,tG,Zx]
theorem oY:∀c:U2,tot c=bJ c+nP c
 |[]=>rfl
 |.keep n :: c=>by rw[aZ,pP,uA,oY c,Pt.aB,SJ];simp[Pt.n];lia
 |.drop s :: c=>by rw[aZ,sV,uA,oY c,Pt.aB,QE];simp[Pt.n];lia
 |.put s :: c=>by rw[aZ,pQ,uA,oY c,Pt.aB,QD];simp[Pt.n];lia
def KE(t:Ξ)(k:Θ):Prop:=∀e∈k,∃(i c:Nat),e.1=i/\t[i]?=some c/\e.2=[c]
def yO{k:Θ}{p:Int}{s:Ξ}{e:Int×Ξ}(h:e∈Ev.cF k p s):e∈k\/(e.1=p/\e.2=s):=by
 unfold Ev.cF at h;split at h
 .obtain⟨q,a,rfl⟩:=List.mem_map.mp h;split
  .rename_i z;exact .inr ⟨z,rfl⟩
  .exact .inl a
 .rcases kS h with h|h
  .exact .inl h
  .rw[aai]at h;subst h;exact .inr ⟨rfl,rfl⟩
def KE.put{t:Ξ}{k:Θ}(h:KE t k){i c:Nat}(hc:t[i]?=some c):KE t (Ev.cF k i [c]):=λe a=>by
 rcases yO a with a|⟨b,d⟩
 .exact h e a
 .exact⟨i,c,b,hc,d⟩
theorem KE.yN{t:Ξ}:∀(s:Ξ) {k:Θ}(i:Nat),KE t k->(t.drop i).take s.length=s->KE t (fQ k i s)
 |[],k,i,h,_=>h
 |c :: s,k,i,h,e=>by
  have a:i<t.length:=by
   refine Nat.lt_of_not_le λz=>?_;rw[aam z]at e;simp at e
  rw[aaq a,ZH,aau,List.cons.injEq]at e;exact KE.yN s (i+1) (h.put (i:=i) (c:=c) (by rw[Zy a,e.1])) e.2
theorem KE.merge{t:Ξ}:∀{m k:Θ},KE t k->KE t m->KE t (Ev.cj k m)
 |[],_,h,_=>h
 |e :: m,k,h,g=>by
  obtain⟨i,c,a,b,d⟩:=g e (.head _);show KE t (Ev.cj (Ev.cF k e.1 e.2) m);rw[a,d];exact KE.merge (h.put b) λx f=>g x (.tail _ f)
def KE.val{t:Ξ}{k:Θ}(h:KE t k){p:Int}{s:Ξ}(e:Ev.bU k p=some s):∃(i c:Nat),p=i/\t[i]?=some c/\s=[c]:=by
 unfold Ev.bU at e;obtain⟨q,a,rfl⟩:=kA e;obtain⟨i,c,b,d,f⟩:=h q (List.mem_of_find?_eq_some a);have:=List.find?_some a;exact⟨i,c,by rw[<-b];exact(ZU this).symm,d,f⟩
def fX(k:Θ)(p:Int):Prop:=(Ev.bU k p).isSome=true
def AS{k:Θ}{p q:Int}{s:Ξ}:fX (Ev.cF k p s) q↔q=p\/fX k q:=by
 unfold fX;rw[AR];by_cases h:q=p<;>simp[h]
theorem qS:∀(s:Ξ) (k:Θ) (i:Nat) (q:Int),(fX k q\/∃j:Nat,j<s.length/\q=((i+j:Nat):Int))->fX (fQ k i s) q
 |[],k,i,q,h=>by
  rcases h with h|⟨j,a,_⟩
  .exact h
  .simp at a
 |c :: s,k,i,q,h=>by
  show fX (fQ (Ev.cF k i [c]) ((i:Int)+1) s) q;have e:(i:Int)+1=((i+1:Nat):Int):=by lia
  rw[e];refine qS s _ (i+1) q ?_;rw[AS];rcases h with h|⟨j,a,h⟩
  .exact .inl (.inr h)
  .cases j with
   |zero=>exact .inl (.inl (by rw[h];lia))
   |succ j=>exact .inr ⟨j,by simpa using a,by rw[h];lia⟩
theorem oZ:∀{m k:Θ}{q:Int},fX k q\/fX m q->fX (Ev.cj k m) q
 |[],k,q,h=>h.elim id λh=>by simp[fX,Ev.bU]at h
 |e :: m,k,q,h=>by
  show fX (Ev.cj (Ev.cF k e.1 e.2) m) q;refine oZ ?_;rw[AS];rcases h with h|h
  .exact .inl (.inr h)
  .by_cases a:q=e.1
   .exact .inl (.inl a)
   .refine .inr ?_;unfold fX Ev.bU at h ⊢;rw[aal,ZG (λz=>a z.symm)]at h;exact h
theorem wg:∀(c:U2) (t:Ξ) (i:Nat) (k z:Θ),aH c (t.drop i)=true->KE t k->aW (c.map Pt.v) i k=some z->KE t z
 |[],t,i,k,z,_,h,e=>by cases e;exact h
 |.keep m :: c,t,i,k,z,hf,h,e=>by
  have a:aH c (t.drop (i+m))=true:=by simp only[aH,yK]at hf;have:=hf.2;rwa [aaw]at this
  have e:aW (.tup [.str [107,101,101,112],.int m] :: c.map Pt.v) i k=some z:=e;rw[aW,gV rfl]at e;exact wg c t (i+m) k z a h e
 |.put s :: c,t,i,k,z,hf,h,e=>by
  have e:aW (.tup [.str [112,117,116],.str s] :: c.map Pt.v) i k=some z:=e;rw[aW,Yl (by decide),Yl (by decide)]at e;exact wg c t i k z hf h e
 |.drop s :: c,t,i,k,z,hf,h,e=>by
  simp only[aH,yK,aac]at hf;have e:aW (.tup [.str [100,114,111,112],.str s] :: c.map Pt.v) i k=some z:=e;rw[aW,gV rfl]at e;split at e
  .exact wg c t (i+s.length) (fQ k i s) z (by have:=hf.2;rwa [aaw]at this) (h.yN s i (List.prefix_iff_eq_take.mp (List.isPrefixOf_iff_prefix.mp hf.1)).symm) e
  .cases e
theorem tH:∀(c:U2) (i:Nat) (k z:Θ),aW (c.map Pt.v) i k=some z->∀q:Int,(fX k q\/∃p x,(asks c)[p]?=some [x]/\q=((i+p:Nat):Int))->fX z q
 |[],i,k,z,e,q,h=>by
  cases e;rcases h with h|⟨p,x,h,_⟩
  .exact h
  .simp[asks]at h
 |.keep m :: c,i,k,z,e,q,h=>by
  have e:aW (.tup [.str [107,101,101,112],.int m] :: c.map Pt.v) i k=some z:=e;rw[aW,gV rfl]at e;refine tH c (i+m) k z e q (h.imp id λzr=>?_);obtain⟨p,x,a,b⟩:=zr;have a:(List.replicate m []++asks c)[p]?=some [x]:=a;by_cases d:p<m
  .rw[oW (by simpa using d)]at a;simp[d]at a
  .rw[ZY (by simp;lia),abu]at a;exact⟨p - m,x,a,by rw[b];lia⟩
 |.put s :: c,i,k,z,e,q,h=>by
  have e:aW (.tup [.str [112,117,116],.str s] :: c.map Pt.v) i k=some z:=e;rw[aW,Yl (by decide),Yl (by decide)]at e;exact tH c i k z e q h
 |.drop s :: c,i,k,z,e,q,h=>by
  have e:aW (.tup [.str [100,114,111,112],.str s] :: c.map Pt.v) i k=some z:=e;rw[aW,gV rfl]at e;split at e
  .refine tH c (i+s.length) (fQ k i s) z e q ?_;rcases h with h|⟨p,x,a,b⟩
   .exact .inl (qS s k i q (.inl h))
   .have a:(s.map (λc=>[c])++asks c)[p]?=some [x]:=a;by_cases d:p<s.length
    .exact .inl (qS s k i q (.inr ⟨p,d,b⟩))
    .rw[ZY (by simp;lia),ZF]at a;exact .inr ⟨p - s.length,x,a,by rw[b];lia⟩
  .cases e
def AU(c:U2){t:Ξ}(z:aH c t=true)(b:nD c<=1000):∃k,aW (c.map Pt.v) 0 []=some k/\k.length<=nD c/\(∀u,aH c u=true->KE u k)/\∀p x,(asks c)[p]?=some [x]->fX k (p:Nat):=by
 obtain⟨k,a,_,d⟩:=we c t 0 [] z (λp s e=>by exists e) (by simpa using b);refine⟨k,a,by simpa using d,λu f=>wg c u 0 [] k f (λe g=>by cases g) a,λp x h=>tH c 0 [] k a _ (.inr ⟨p,x,h,by simp⟩)⟩
theorem qT:∀{c:U2}{y:Ξ},y∈asks c->y=[]\/∃x,y=[x]
 |[],y,h=>by simp[asks]at h
 |p :: c,y,h=>by
  have h:y∈p.asks++asks c:=h;rcases kS h with h|h
  .cases p with
   |keep n=>exact .inl (List.eq_of_mem_replicate h)
   |put s=>simp[Pt.asks]at h
   |drop s=>obtain⟨x,_,rfl⟩:=List.mem_map.mp h;exact .inr ⟨x,rfl⟩
  .exact qT h
theorem kP:∀{a:Δ}{t:Ξ},aK a t=true↔a.length=t.length/\∀(p:Nat) y x,a[p]?=some y->t[p]?=some x->y=[]\/y=[x]
 |[],[]=>by simp[aK]
 |[],_ :: _=>by simp[aK]
 |_ :: _,[]=>by simp[aK]
 |y :: a,x :: t=>by
  simp only[aK,yK,aaf,aac,ZH,Nat.add_right_cancel_iff,kP];constructor
  .rintro⟨h1,h2,h3⟩;refine⟨h2,λp z w b c=>?_⟩;cases p with
   |zero=>simp at b c;subst b c;exact h1
   |succ p=>exact h3 p z w (by simpa using b) (by simpa using c)
  .rintro⟨h1,h2⟩;exact⟨h2 0 y x rfl rfl,h1,λp z w b c=>h2 (p+1) z w (by simpa using b) (by simpa using c)⟩
def kp(g:Nat->Bool):Nat->List Ξ->Ξ
 |_,[]=>[]
 |i,y :: a=>if decide (y=[])&&g i then i :: kp g (i+1) a else kp g (i+1) a
def QF{c:U2}{x:Ξ}(h:aH c x=true){p y:Nat}(e:(asks c)[p]?=some [y]):x[p]?=some y:=by
 rw[dM,kP]at h;have b:p<x.length:=by rw[<-h.1];exact(gL e).1
 have a:=Zy b;have:=h.2 p _ _ e a;simp at this;rw[a,<-this]
abbrev ni:Fn:=⟨3,4,(.cons (.ret (.me .join (.c (.str [])) (.cons (.comp (.jQ (.v 1) (.v 3) (.v 2)) (.one 3) (.jM (.cons (.v 0) .nil)) .no) .nil))) .nil)⟩
abbrev o6(z:Nat)(I:Nat)(Z:Nat)(QG:Nat):Fn:=⟨1,5,(.cons (.gT 1 2 0 z) (.cons (.set 3 (.cl I (.cons (.cl Z (.cons (.ix (.v 0) (.c (.int 0))) .nil)) (.cons (.v 1) (.cons (.ix (.c (.tup [.str [97],.str [98]])) (.c (.int 0))) .nil))))) (.cons (.iff (.bi .all (.cons (.comp (.cl QG (.cons (.v 4) (.cons (.v 3) .nil))) (.one 4) (.seq (.v 0)) .no) .nil)) (.cons (.ret (.v 3)) .nil) .nil) (.cons (.ret (.c (.aU))) .nil))))⟩
section
variable{F:List Fn}{w n aC bz j5 jE kN i:Nat}
def oV:Option Ξ->V
 |some s=>.str s
 |none=>.aU
def o7(k:Θ)(s:Nat)(m:Nat):Ξ:=((List.range m).map λ(p:Nat)=>(Ev.bU k (p:Int)).getD [s]).flatten
def tK(h:F[i]?=some ni)(k:Θ)(s m:Nat)(I:m<=1000)(z:(o7 k s m).length<=1000):run F w (n+1) i [.val (.int (m:Nat)),.val (.dct k),.val (.str [s])]=some (.str (o7 k s m),[]):=by
 have a:=BU (l:=(List.range m).map λ(p:Nat)=>(Ev.bU k (p:Int)).getD [s]) (ZL z (by decide));rw[abw]at a;refine cC h rfl (ak (bT (vZ rfl (aR rfl) (ay (jd (yq (ay (az rfl) aM) (Qn (by lia) rfl)) rfl (iM (λ(p:Nat)=>V.int (0+(p:Nat))) (λp=>V.str ((Ev.bU k (p:Int)).getD [s])) (List.range m) λp _=>kM rfl (IJ (az rfl) (az rfl) (az rfl) ?_)) (cU (bR (by simp;lia)))) aM) a) ⟨rfl,rfl⟩));simp only[qJ,abx];cases Ev.bU k (p:Int)<;>rfl
def AV(hd:F[i]?=some dY){c:U2}{k:Θ}(e:aW (c.map Pt.v) 0 []=some k):run F w (n+1) i [.val (aD c)]=some (.dct k,[]):=by
 have a:exs (run F w n) w dY.body (cW dY [.val (aD c)])=.bad:=by
  show exs _ _ (.cons (.set 1 .gf) _) _=_;rw[exs,ex,ev];rfl
 rw[run_eq hd rfl,a];have b:fin dY [.val (aD c)] .bad=oz dY [.val (aD c)]:=by simp only[fin]
 rw[b];unfold oz;rw[gV rfl];show(aW (c.map Pt.v) 0 []).map _=_;rw[e];rfl
theorem Je{t:Ξ}(hd:F[i]?=some dY):∀(rows:List (U2)) (k:Θ),(∀c∈rows,aH c t=true/\nD c<=1000)->KE t k->k.length+(rows.map nD).sum<=10000->∃K,kG (run F w (n+1)) i (rows.map aD) k=some K/\KE t K/\(∀q,fX k q->fX K q)/\∀c∈rows,∀p x,(asks c)[p]?=some [x]->fX K (p:Nat)
 |[],k,_,h,_=>⟨k,rfl,h,λ_ h=>h,λc f=>by cases f⟩
 |c :: rows,k,hr,h,hb=>by
  obtain⟨b,g⟩:=hr c (.head _);obtain⟨m,j,G,l,o⟩:=AU c b g;rw[WL,List.sum_cons]at hb;have H:(Ev.cj k m).length<=k.length+m.length:=by
   have:∀(m k:Θ),(Ev.cj k m).length<=k.length+m.length:=λm=>by
    induction m with
    |nil=>intro k;exact Zw _
    |cons p m r=>intro k;have:=r (Ev.cF k p.1 p.2);have:=qL k p.1 p.2;show(Ev.cj (Ev.cF k p.1 p.2) m).length<=_;rw[ZH];lia
   exact this m k
  obtain⟨K,z,A,d,B⟩:=Je hd rows (Ev.cj k m) (λx a=>hr x (.tail _ a)) (h.merge (l t b)) (by lia);refine⟨K,?_,A,λq C=>d q (oZ (.inl C)),λx a p y e=>?_⟩
  .rw[WL,kG,AV hd j];show(if k.length+m.length<=100000 then _ else none)=_;rw[gV (by lia)];exact z
  .rcases qE a with rfl|a
   .exact d _ (oZ (.inr (o p y e)))
   .exact B x a p y e
def zf{s0:Sl}{os:List (T2)}(hs:F[aC]?=some eg)(hb:F[bz]?=some (fU aC))(hd:F[j5]?=some dY)(hfl:F[jE]?=some ni)(hf:F[kN]?=some (sY aC))(h:F[i]?=some (o6 j5 jE bz kN))(t:Ξ)(c0:U2)(rows:List (U2))(hr:∀c∈c0 :: rows,aH c t=true/\tot c<=900/\c.length<=900)(hl:rows.length<=10)(hS:Hd ((c0 :: rows).map aD) s0 os):
  ∃u,run F w (n+3) i [s0]=some (.str u,os)/\u.length=t.length/\∀c∈c0 :: rows,aH c u=true:=by
 have r:∀l:List (U2),(∀c∈l,tot c<=900)->(l.map nD).sum<=l.length*900:=λl=>by
  induction l with
  |nil=>intro _;simp
  |cons c l g=>
   intro q;have:=g λx A=>q x (.tail _ A);have:=q c (.head _);have:=jh c;rw[WL,List.sum_cons,ZH,Nat.add_mul];lia
 have r:=r (c0 :: rows) λc f=>(hr c f).2.1;rw[ZH]at r;obtain⟨K,k1,k2,_,Z⟩:=Je (w:=w) (n:=n+1) (t:=t) hd (c0 :: rows) [] (λc f=>⟨(hr c f).1,by have:=(hr c f).2.1;have:=jh c;lia⟩) (λe he=>by cases he) (by
  have:(rows.length+1)*900<=11*900:=Nat.mul_le_mul_right _ (by lia);simp only[aaI];lia)
 obtain⟨h1,h2,h3⟩:=hr c0 (.head _);have et:=fF h1;have ba:bJ c0<=tot c0:=by have:=oY c0;lia
 have N:∀p:Nat,Ev.bU K (p:Int)=none\/∃c,t[p]?=some c/\Ev.bU K (p:Int)=some [c]:=λp=>by
  cases ev:Ev.bU K (p:Int)with
  |none=>exact .inl rfl
  |some u=>
   obtain⟨j,c,B,C,G⟩:=k2.val ev;have:j=p:=by lia
   subst this;exact .inr ⟨c,C,by rw[G]⟩
 have P:o7 K 97 t.length=(List.range t.length).map λ(p:Nat)=>((Ev.bU K (p:Int)).getD [97]).headD 0:=by
  unfold o7;generalize t.length=m
  have:∀l:Ξ,(l.map λ(p:Nat)=>(Ev.bU K (p:Int)).getD [97]).flatten=l.map λ(p:Nat)=>((Ev.bU K (p:Int)).getD [97]).headD 0:=λl=>by
   induction l with
   |nil=>rfl
   |cons p l g=>
    rw[WL,WL,abT,g];rcases N p with z|⟨c,_,z⟩<;>rw[z]<;>rfl
  exact this _
 have H:(o7 K 97 t.length).length=t.length:=by rw[P];simp
 have I:∀c∈c0 :: rows,aH c (o7 K 97 t.length)=true:=λc f=>by
  have o:=(hr c f).1;rw[dM,kP];refine⟨by rw[H,er,fF o],λp y x J L=>?_⟩;rcases qT (ZA J)with rfl|⟨z,rfl⟩
  .exact .inl rfl
  .refine .inr ?_;have M:=Z c f p z J;have Q:=QF o J;rcases N p with q|⟨c',W,q2⟩
   .unfold fX at M;rw[q]at M;exists M
   .rw[Q]at W;exists W;have hp:p<t.length:=(gL Q).1;rw[P,aaa,abG hp]at L;simp[q2]at L;rw[L]
 refine⟨o7 K 97 t.length,?_,H,I⟩;have X:=λfr=>cJ (fr:=fr) (je (F:=F) (w:=w) (n:=n) hs hb c0 (by lia) (by lia));rw[<-et]at X;have Y:=λfr=>gq (fr:=fr) (tK (F:=F) (w:=w) (n:=n+1) hfl K 97 t.length (by lia) (by lia));generalize o7 K 97 t.length=u at H I Y
 have ri:=λc (f:c∈c0 :: rows) fr=>call2 (fr:=fr) (qQ (F:=F) (w:=w) (n:=n) hs hf c u (by have:=(hr c f).2.1;lia) (by lia));have al:cQ .all [.lst ((c0 :: rows).map λc=>V.bl (aH c u))]=some (.bl true):=by
  rw[AA];have:∀l:List (U2),(∀c∈l,aH c u=true)->(boolsOf (l.map λc=>V.bl (aH c u))).map (λbs=>V.bl (bs.all id))=some (.bl true):=λl=>by
   induction l with
   |nil=>intro _;rfl
   |cons c l g=>
    intro q;have:=g λx A=>q x (.tail _ A);rw[WL,q c (.head _)];cases e:boolsOf (l.map λc=>V.bl (aH c u))with
    |none=>rw[e]at this;exists this
    |some bs=>
     rw[e]at this;simp only[boolsOf,e,Option.map]at this ⊢;simpa using this
  exact this _ I
 have B:∀k a b c d,um k [some s0.walk,a,b,c,d] 0=some (.lst ((c0 :: rows).map aD)):=λk _ _ _ _=>by cases hS<;>rfl
 have C:∀a b c d,mX true [some s0.walk,a,b,c,d] 0=some (.lst ((c0 :: rows).map aD)):=λ_ _ _ _=>by cases hS<;>rfl
 have G:s0.walk.gW=s0.walk:=by cases hS<;>rfl
 have g4:∀a b c d,outs 1 [some s0.walk,a,b,c,d]=os:=λ_ _ _ _=>by cases hS<;>rfl
 have QH:eK (.lst ((c0 :: rows).map aD)) (.int 0)=some (aD c0):=by rw[pI,jU (by decide)];rfl
 obtain⟨cl,hcl⟩:∃v,((c0 :: rows).map aD).getLast?=some v:=⟨_,List.getLast?_eq_some_getLast (by simp)⟩
 have lp:jH [some s0.walk,some (.val (.dct K)),none,none,none] 2 ((c0 :: rows).map aD)=some [some s0.walk,some (.val (.dct K)),some (.val cl),none,none]:=by unfold jH;rw[hcl];rfl
 refine cC h rfl ?_;refine ak (Ec (ah:=[some s0.walk,none,none,none,none]) (aq:=[some s0.walk,some (.val (.dct K)),none,none,none]) ⟨by decide,by decide,by show 1<5;decide,by show 2<5;decide⟩ (fZ (fC (B _ _ _ _ _)) rfl) k1 rfl lp ?_);refine ak (bN (ah:=[some s0.walk,some (.val (.dct K)),some (.val cl),none,none]) (bg (aO rfl (bg (aO rfl (cS (az (C _ _ _ _)) (aR rfl) QH) aL) (X _)) (aO rfl (az rfl) (aO rfl (cS (aR rfl) (aR rfl) rfl) aL))) (Y _)) rfl rfl ?_);refine ak (bh (b:=true) (ah:=[some s0.walk,some (.val (.dct K)),some (.val cl),some (.val (.str u)),none]) (aG rfl (gg (ay (jd (fZ (fC (B _ _ _ _ _)) rfl) rfl (iM aD (λc=>V.bl (aH c u)) (c0 :: rows) λc f=>kM rfl (bg (aO rfl (az rfl) (aO rfl (az rfl) aL)) (ri c f _))) (cU (bR (by simp;lia)))) aM) al) rfl) (λ_=>?_) λh=>absurd h (by decide));have sh:gM [some s0.walk,some (.val (.dct K)),some (.val cl),some (.val (.str u)),none]=[some s0.walk,some (.val (.dct K)),some (.val cl),some (.val (.str u)),none]:=by
  show some s0.walk.gW :: _=_;rw[G];rfl
 refine ak (bT (ah:=[some s0.walk,some (.val (.dct K)),some (.val cl),some (.val (.str u)),none]) ?_ ⟨rfl,g4 _ _ _ _⟩);rw[sh];exact az rfl
end
def K1(k:Θ):Prop:=∀e∈k,∃c:Nat,e.2=[c]
def KE.k1{t:Ξ}{k:Θ}(h:KE t k):K1 k:=λe a=>by
 obtain⟨_,c,_,_,b⟩:=h e a;exact⟨c,b⟩
theorem K1.merge:∀{m k:Θ},K1 k->K1 m->K1 (Ev.cj k m)
 |[],_,h,_=>h
 |e :: m,k,h,g=>by
  show K1 (Ev.cj (Ev.cF k e.1 e.2) m);refine K1.merge (λx a=>?_) λx a=>g x (.tail _ a);rcases yO a with a|⟨_,b⟩
  .exact h x a
  .rw[b];exact g e (.head _)
def K1.val{k:Θ}(h:K1 k)(p:Int)(s:Nat):((Ev.bU k p).getD [s]).length=1:=by
 cases e:Ev.bU k p with
 |none=>rfl
 |some u=>
  unfold Ev.bU at e;obtain⟨q,a,rfl⟩:=kA e;obtain⟨c,b⟩:=h q (List.mem_of_find?_eq_some a);rw[Option.getD_some,b];rfl
def QI{k:Θ}(h:K1 k)(s m:Nat):(o7 k s m).length=m:=by
 unfold o7;have:∀l:Ξ,((l.map λ(p:Nat)=>(Ev.bU k (p:Int)).getD [s]).flatten).length=l.length:=λl=>by
  induction l with
  |nil=>rfl
  |cons p l a=>rw[WL,abT,Zx,a,h.val,ZH];omega
 rw[this,List.length_range]
def qk(rows:List (U2)):Bool:=by
 classical exact decide (¬ ∃t,∀c∈rows,aH c t=true)
def jF{rows:List (U2)}:qk rows=false↔∃t,∀c∈rows,aH c t=true:=by
 unfold qk;simp
def EH(o:Option Ξ):Pv.cop .uT (oV o) .aU=some o.isNone:=by cases o<;>rfl
def uB(o:Option Ξ):Pv.cop .mR (oV o) .aU=some (!o.isNone):=by cases o<;>rfl
section
variable{F:List Fn}{w n aC bz j5 jE kN i:Nat}
theorem EI(hd:F[i]?=some dY):∀(rows:List (U2)) (k:Θ),(∀c∈rows,(∃t,aH c t=true)/\nD c<=1000)->K1 k->k.length+(rows.map nD).sum<=10000->∃K,kG (run F w (n+1)) i (rows.map aD) k=some K/\K1 K
 |[],k,_,h,_=>⟨k,rfl,h⟩
 |c :: rows,k,hr,h,hb=>by
  obtain⟨⟨t,a⟩,b⟩:=hr c (.head _);obtain⟨m,d,o,e,_⟩:=AU c a b;rw[WL,List.sum_cons]at hb;have q:(Ev.cj k m).length<=k.length+m.length:=by
   have:∀(m k:Θ),(Ev.cj k m).length<=k.length+m.length:=λm=>by
    induction m with
    |nil=>intro k;exact Zw _
    |cons p m f=>intro k;have:=f (Ev.cF k p.1 p.2);have:=qL k p.1 p.2;show(Ev.cj (Ev.cF k p.1 p.2) m).length<=_;rw[ZH];omega
   exact this m k
  obtain⟨K,g,j⟩:=EI hd rows (Ev.cj k m) (λx l=>hr x (.tail _ l)) (h.merge (e t a).k1) (by omega);refine⟨K,?_,j⟩;rw[WL,kG,AV hd d];show(if k.length+m.length<=100000 then _ else none)=_;rw[gV (by omega)];exact g
theorem EJ(u:Ξ):∀l:List (U2),(boolsOf (l.map λc=>V.bl (aH c u))).map (λbs=>V.bl (bs.all id))=some (.bl (l.all λc=>aH c u))
 |[]=>rfl
 |c :: l=>by
  have:=EJ u l;rw[WL];cases e:boolsOf (l.map λc=>V.bl (aH c u))with
  |none=>rw[e]at this;cases this
  |some bs=>
   rw[e]at this;simp only[boolsOf,e,Option.map]at this ⊢;simp only[abS,V.bl.injEq]at this ⊢;rw[acB,acB,this];rfl
def zg{s0:Sl}{os:List (T2)}(hs:F[aC]?=some eg)(hb:F[bz]?=some (fU aC))(hd:F[j5]?=some dY)(hfl:F[jE]?=some ni)(hf:F[kN]?=some (sY aC))(h:F[i]?=some (o6 j5 jE bz kN))(c0:U2)(rows:List (U2))(hr:∀c∈c0 :: rows,(∃t,aH c t=true)/\tot c<=900/\c.length<=900)(hl:rows.length<=10)(hS:Hd ((c0 :: rows).map aD) s0 os):
  ∃o,run F w (n+3) i [s0]=some (oV o,os)/\o.isNone=qk (c0 :: rows)/\∀u,o=some u->u.length=bJ c0/\∀c∈c0 :: rows,aH c u=true:=by
 cases g:qk (c0 :: rows)with
 |false=>
  obtain⟨t,y⟩:=jF.mp g;obtain⟨u,r,l,f⟩:=zf (w:=w) (n:=n) hs hb hd hfl hf h t c0 rows (λc j=>⟨y c j,(hr c j).2⟩) hl hS;exact⟨some u,r,rfl,λv e=>by cases e;exact⟨by rw[l,fF (y c0 (.head _))],f⟩⟩
 |true=>
  have g:¬ ∃t,∀c∈c0 :: rows,aH c t=true:=λz=>by rw[jF.mpr z]at g;cases g
  refine⟨none,?_,rfl,λu e=>by cases e⟩;have p:∀l:List (U2),(∀c∈l,tot c<=900)->(l.map nD).sum<=l.length*900:=λl=>by
   induction l with
   |nil=>intro _;simp
   |cons c l C=>
    intro q;have:=C λx G=>q x (.tail _ G);have:=q c (.head _);have:=jh c;rw[WL,List.sum_cons,ZH,Nat.add_mul];omega
  have p:=p (c0 :: rows) λc j=>(hr c j).2.1;rw[ZH]at p;obtain⟨K,k1,k2⟩:=EI (w:=w) (n:=n+1) hd (c0 :: rows) [] (λc j=>⟨(hr c j).1,by have:=(hr c j).2.1;have:=jh c;omega⟩) (λe H=>by cases H) (by
   have:(rows.length+1)*900<=11*900:=Nat.mul_le_mul_right _ (by omega);simp only[aaI];omega)
  obtain⟨X,Y,Z⟩:=hr c0 (.head _);have ba:bJ c0<=tot c0:=by have:=oY c0;omega
  have I:=QI k2 97 (bJ c0);have J:=λfr=>cJ (fr:=fr) (je (F:=F) (w:=w) (n:=n) hs hb c0 (by omega) (by omega));have A:=λfr=>gq (fr:=fr) (tK (F:=F) (w:=w) (n:=n+1) hfl K 97 (bJ c0) (by omega) (by omega));generalize o7 K 97 (bJ c0)=u at I A
  have L:=λc (j:c∈c0 :: rows) fr=>call2 (fr:=fr) (qQ (F:=F) (w:=w) (n:=n) hs hf c u (by have:=(hr c j).2.1;omega) (by omega));have al:cQ .all [.lst ((c0 :: rows).map λc=>V.bl (aH c u))]=some (.bl false):=by
   rw[AA,EJ];cases e:(c0 :: rows).all λc=>aH c u with
   |false=>rfl
   |true=>exact absurd ⟨u,List.all_eq_true.mp e⟩ g
  have B:∀k a b c d,um k [some s0.walk,a,b,c,d] 0=some (.lst ((c0 :: rows).map aD)):=λk _ _ _ _=>by cases hS<;>rfl
  have M:∀a b c d,mX true [some s0.walk,a,b,c,d] 0=some (.lst ((c0 :: rows).map aD)):=λ_ _ _ _=>by cases hS<;>rfl
  have N:∀a b c d,outs 1 [some s0.walk,a,b,c,d]=os:=λ_ _ _ _=>by cases hS<;>rfl
  have QH:eK (.lst ((c0 :: rows).map aD)) (.int 0)=some (aD c0):=by rw[pI,jU (by decide)];rfl
  obtain⟨cl,hcl⟩:∃v,((c0 :: rows).map aD).getLast?=some v:=⟨_,List.getLast?_eq_some_getLast (by simp)⟩
  have P:jH [some s0.walk,some (.val (.dct K)),none,none,none] 2 ((c0 :: rows).map aD)=some [some s0.walk,some (.val (.dct K)),some (.val cl),none,none]:=by unfold jH;rw[hcl];rfl
  refine cC h rfl ?_;refine ak (Ec (ah:=[some s0.walk,none,none,none,none]) (aq:=[some s0.walk,some (.val (.dct K)),none,none,none]) ⟨by decide,by decide,by show 1<5;decide,by show 2<5;decide⟩ (fZ (fC (B _ _ _ _ _)) rfl) k1 rfl P ?_);refine ak (bN (ah:=[some s0.walk,some (.val (.dct K)),some (.val cl),none,none]) (bg (aO rfl (bg (aO rfl (cS (az (M _ _ _ _)) (aR rfl) QH) aL) (J _)) (aO rfl (az rfl) (aO rfl (cS (aR rfl) (aR rfl) rfl) aL))) (A _)) rfl rfl ?_);refine iE (ah:=[some s0.walk,some (.val (.dct K)),some (.val cl),some (.val (.str u)),none]) (aG rfl (gg (ay (jd (fZ (fC (B _ _ _ _ _)) rfl) rfl (iM aD (λc=>V.bl (aH c u)) (c0 :: rows) λc j=>kM rfl (bg (aO rfl (az rfl) (aO rfl (az rfl) aL)) (L c j _))) (cU (bR (by simp;omega)))) aM) al) rfl) ?_;have Q:s0.walk.gW=s0.walk:=by cases hS<;>rfl
  have W:gM [some s0.walk,some (.val (.dct K)),some (.val cl),some (.val (.str u)),none]=[some s0.walk,some (.val (.dct K)),some (.val cl),some (.val (.str u)),none]:=by
   show some s0.walk.gW :: _=_;rw[Q];rfl
  refine ak (bT (ah:=[some s0.walk,some (.val (.dct K)),some (.val cl),some (.val (.str u)),none]) ?_ ⟨rfl,N _ _ _ _⟩);rw[W];exact aR rfl
end
section
def en:Nat->List Ξ->List (Nat×Ξ)
 |_,[]=>[]
 |k,p :: ps=>(k,p) :: en (k+1) ps
def hnd(s s':Sl)(o:List (T2))(l:T2):Prop:=(s=.val (.lst l)/\s'=.val (.lst l)/\o=[])\/(s=.bor l/\s'=.ro l/\o=[l])
end
def bare(A:Δ):Ξ:=(List.range A.length).filter λj=>decide (A.getD j [0]=[])
def dw:Nat->List Ξ->Θ
 |_,[]=>[]
 |i,y :: a=>if y=[]then dw (i+1) a else ((i:Int),y) :: dw (i+1) a
theorem uC:∀(a b:Δ) (i:Nat),dw i (a++b)=dw i a++dw (i+a.length) b
 |[],_,_=>rfl
 |y :: a,b,i=>by
  have:=uC a b (i+1);simp only[aaz,dw,this,ZH];rw[show i+1+a.length=i+(a.length+1)by lia];split<;>rfl
theorem Jf:∀(n i:Nat),dw i (List.replicate n [])=[]
 |0,_=>rfl
 |n+1,i=>by exact Jf n _
theorem uD:∀(s:Ξ) (k:Θ) (i:Nat),(∀e∈k,e.1<(i:Int))->fQ k i s=k++dw i (s.map λc=>[c])
 |[],k,i,_=>by simp[fQ,dw]
 |c :: s,k,i,h=>by
  have e:Ev.cF k i [c]=k++[((i:Int),[c])]:=by
   unfold Ev.cF;rw[Yl];intro z;obtain⟨x,a,q⟩:=List.any_eq_true.mp z;have:=h x a;lia
  have b:i+1=((i+1:Nat):Int):=by lia
  rw[fQ,e,b,uD s _ (i+1) λx a=>by
   rcases kS a with a|a
   .have:=h x a;lia
   .rw[aai]at a;lia]
  simp[dw]
theorem yP:∀(a:Δ) (i:Nat),∀e∈dw i a,(i:Int)<=e.1/\e.1<((i+a.length:Nat):Int)
 |[],_,_,h=>nomatch h
 |y :: a,i,e,h=>by
  have b:=λh=>yP a (i+1) e h;simp only[dw]at h;rw[ZH];split at h
  .lia
  .rcases qE h with rfl|h
   .exact⟨Int.le_refl _,by lia⟩
   .lia
theorem wj:∀(c:U2) (i:Nat) (k:Θ),(∀e∈k,e.1<(i:Int))->k.length+nD c<=1000->aW (c.map Pt.v) i k=some (k++dw i (asks c))
 |[],i,k,_,_=>by simp[aW,asks,dw]
 |.keep m :: c,i,k,h,hb=>by
  have e:=wj c (i+m) k (λe a=>by have:=h e a;lia) hb;show aW (.tup [.str [107,101,101,112],.int m] :: c.map Pt.v) i k=_;rw[aW,gV rfl,show i+m=((i+m:Nat):Int)by lia,e];show _=some (k++dw i (List.replicate m []++asks c));rw[uC,Jf,aaH,abu]
 |.put s :: c,i,k,h,hb=>by
  have e:=wj c i k h hb;exact e
 |.drop s :: c,i,k,h,hb=>by
  simp only[nD]at hb;have l:=qR s k i;rw[uD s k i h]at l;have e:=wj c (i+s.length) (k++dw i (s.map λc=>[c])) (λe a=>by
   rcases kS a with a|a
   .have:=h e a;lia
   .have:=(yP _ _ e a).2;simpa using this) (by lia)
  show aW (.tup [.str [100,114,111,112],.str s] :: c.map Pt.v) i k=_;rw[aW,gV rfl,gV (by lia),uD s k i h,show(i:Int)+(s.length:Int)=((i+s.length:Nat):Int)by lia,e];show _=some (k++dw i ((s.map λc=>[c])++asks c));rw[uC,ZV,ZF]
theorem yQ:∀(a:Δ) (i j:Nat),Ev.bU (dw i a) ((i+j:Nat):Int)=if a.getD j []=[]then none else some (a.getD j [])
 |[],i,j=>by simp[dw,Ev.bU]
 |y :: a,i,j=>by
  cases j with
  |zero=>
   simp only[dw,List.getD_cons_zero,Nat.add_zero];split
   .cases e:Ev.bU (dw (i+1) a) i with
    |none=>rfl
    |some v=>
     obtain⟨q,b,_⟩:=kA e;have d:=(yP a (i+1) q (List.mem_of_find?_eq_some b)).1;have f:=ZU (by have:=List.find?_some b;exact this);lia
   .simp[Ev.bU]
  |succ j=>
   have c:=yQ a (i+1) j;rw[show i+(j+1)=i+1+j by lia,List.getD_cons_succ,<-c];simp only[dw];split
   .rfl
   .unfold Ev.bU;rw[List.find?_cons_of_neg];lia
theorem AW:∀(a:Δ) (i:Nat),(dw i a).map (·.1)=((List.range a.length).filter λj=>decide (a.getD j []≠[])).map λj=>((i+j:Nat):Int)
 |[],_=>rfl
 |y :: a,i=>by
  have b:=AW a (i+1);rw[ZH,abl,aaM,List.filter_map];simp only[dw,List.getD_cons_zero,Function.comp_def,List.getD_cons_succ];have e:∀l:Ξ,(l.map Nat.succ).map (λj=>((i+j:Nat):Int))=l.map λj=>((i+1+j:Nat):Int):=λl=>by
   rw[abw];exact acF λj _=>by show((i+(j+1):Nat):Int)=_;congr 1;lia
  by_cases h:y=[]
  .rw[gV h,Yl (by simp[h]),b,e]
  .rw[Yl h,gV (by simp[h]),WL,WL,b,e];rfl
theorem qU:∀{l:Kk},l.Pairwise (·<=·)->Ev.sortI l=l
 |[],_=>rfl
 |[x],_=>rfl
 |x :: y :: l,h=>by
  rw[List.pairwise_cons]at h;show Ev.insI x (Ev.sortI (y :: l))=_;rw[qU h.2,Ev.insI,gV (h.1 y (by simp))]
def dz(A B:Δ)(m:Nat):Ξ:=(List.range m).filter λj=>decide ((A.getD j []≠[]/\B.getD j []≠[])/\A.getD j []≠B.getD j [])
def uE(A B:Δ)(m:Nat):dz A B m=dz B A m:=List.filter_congr λj _=>by
 rw[aaU,acJ,acJ,and_comm (a:=A.getD j []≠[])];exact and_congr_right λ_=>⟨λh=>h.symm,λh=>h.symm⟩
def jX(l:Ξ):V:=.lst (l.map λj=>V.int (j:Nat))
section
variable{F:List Fn}{w n i aC bz j5 fH bH eB bf tL:Nat}
def AX(hd:F[i]?=some dY)(c:U2)(b:nD c<=1000):run F w (n+1) i [.val (aD c)]=some (.dct (dw 0 (asks c)),[]):=by
 have a:exs (run F w n) w dY.body (cW dY [.val (aD c)])=.bad:=by
  show exs _ _ (.cons (.set 1 .gf) _) _=_;rw[exs,ex,ev];rfl
 rw[run_eq hd rfl,a];have d:fin dY [.val (aD c)] .bad=oz dY [.val (aD c)]:=by simp only[fin]
 rw[d];unfold oz;rw[gV rfl];show(aW (c.map Pt.v) 0 []).map _=_;have e:aW (c.map Pt.v) 0 []=some (dw 0 (asks c)):=wj c 0 [] (λe h=>nomatch h) (by simpa using b);rw[e];rfl
section
variable{kc:Nat}(hs:F[aC]?=some eg)(hb:F[bz]?=some (fU aC))(hd:F[j5]?=some dY)(hc:F[fH]?=some (nh bz j5 kc))(one other:U2)(b1:tot one<=60)(b2:tot other<=60)(l1:one.length<=60)(l2:other.length<=60)
include hs hb hd hc b1 b2 l1 l2
theorem tM(h:bJ one=bJ other):run F w (n+3) fH [.val (aD one),.val (aD other)]=some (jX (dz (asks one) (asks other) (asks one).length),[]):=by
 have L:=jh one;have M:=jh other;have o:=λfr=>cJ (fr:=fr) (AX (w:=w) (n:=n+1) hd one (by lia));have p:=λfr=>cJ (fr:=fr) (AX (w:=w) (n:=n+1) hd other (by lia));have r:=λfr=>cJ (fr:=fr) (je (w:=w) (n:=n) hs hb one (by lia) (by lia));have z:=λfr=>cJ (fr:=fr) (je (w:=w) (n:=n) hs hb other (by lia) (by lia));have A:cop .ne (.int (bJ one)) (.int (bJ other))=some false:=by rw[B4,h];simp
 have d:=AW (asks one) 0;have al:=Lz one;have B:((dw 0 (asks one)).map (·.1)).length<=60:=by
  rw[d,ZF];exact ZL (acq _ _) (by rw[List.length_range];lia)
 have C:Ev.sortI ((dw 0 (asks one)).map (·.1))=(dw 0 (asks one)).map (·.1):=by
  rw[d];refine qU (List.pairwise_map.mpr (List.Pairwise.imp (λ{a b} h=>?_) (List.pairwise_lt_range.filter _)));have h:a<b:=h;lia
 have G:cQ .mS [.dct (dw 0 (asks one))]=some (.lst (((List.range (asks one).length).filter λj=>decide ((asks one).getD j []≠[])).map λj=>V.int ((0+j:Nat):Int))):=by
  delta cQ;dsimp only
  show(if (dw 0 (asks one)).length<64 then dX ((Ev.sortI ((dw 0 (asks one)).map (·.1))).map V.int)else none)=_;rw[C,gV (by rw[ZF]at B;lia),cU (bR (by rw[ZF];lia)),d,abw];rfl
 refine cC hc rfl ?_;refine iE (aG rfl (bK (bg (aO rfl (az rfl) aL) (r _)) (bg (aO rfl (az rfl) aL) (z _)) A) rfl) ?_;refine ak (bN (bg (aO rfl (az rfl) aL) (o _)) rfl rfl ?_);refine ak (bN (bg (aO rfl (az rfl) aL) (p _)) rfl rfl ?_);have H:(((List.range (asks one).length).filter λj=>decide ((asks one).getD j []≠[])).filter λj=>!decide ((if (asks other).getD j []=[]then (asks one).getD j []else (asks other).getD j [])=(asks one).getD j []))=dz (asks one) (asks other) (asks one).length:=by
  rw[List.filter_filter];refine List.filter_congr λj _=>?_;generalize (asks one).getD j []=x
  generalize (asks other).getD j []=y
  by_cases I:x=[]<;>by_cases J:y=[]<;>simp[I,J]
  exact eq_comm
 refine ak (bT (jd (l:=(dz (asks one) (asks other) (asks one).length).map λj=>V.int (j:Nat)) (fZ (gg (k:=true) (ay (az rfl) aM) G) rfl) rfl ?_ (cU (bR ?_))) ⟨rfl,rfl⟩)
 .rw[<-H];refine oM (λj=>V.int ((0+j:Nat):Int)) (λj=>!decide ((if (asks other).getD j []=[]then (asks one).getD j []else (asks other).getD j [])=(asks one).getD j [])) (λj=>V.int (j:Nat)) _ λj c=>?_;have c:=ZU (List.mem_filter.mp c).2;have e:=yQ (asks one) 0 j;have f:=yQ (asks other) 0 j;rw[Yl c]at e;generalize (asks one).getD j []=x at e c
  generalize (asks other).getD j []=y at f
  have g:uh (.dct (dw 0 (asks one))) (.int ((0+j:Nat):Int))=some (.str x):=by show(Ev.bU (dw 0 (asks one)) ((0+j:Nat):Int)).map V.str=_;rw[e];rfl
  have K:qJ (.dct (dw 0 (asks other))) (.int ((0+j:Nat):Int)) (.str x)=some (.str (if y=[]then x else y)):=by
   delta qJ;dsimp only
   rw[f];by_cases q:y=[]<;>simp[q]
  exact ux (bB:=[some (.val (aD one)),some (.val (aD other)),some (.val (.dct (dw 0 (asks one)))),some (.val (.dct (dw 0 (asks other)))),some (.val (.int ((0+j:Nat):Int)))]) rfl (aG rfl (bK (IJ (az rfl) (az rfl) (II (az rfl) (az rfl) g) K) (II (az rfl) (az rfl) g) jI) rfl) λ_=>az (by rw[acH];rfl)
 .rw[ZF];exact ZL (acq _ _) (by rw[List.length_range];lia)
def EK{kp:Nat}(z:F[tL]?=some (mF fH bH eB aC bf kp))(I:kp<9)(f:Bool)(h:bJ one=bJ other)(h2:dz (asks one) (asks other) (asks one).length≠[]):dP F w (n+4) tL [.val (aD one),.val (aD other),.val (.bl f)]=some kp:=by
 refine Sy z rfl (Ed (kZ F w (n+3)) ?_);have r:=λfr=>call2 (fr:=fr) (tM (w:=w) (n:=n) hs hb hd hc one other b1 b2 l1 l2 h);refine Sw (b:=true) (aG rfl (bg (aO rfl (az rfl) (aO rfl (az rfl) aL)) (r _)) ?_) ?_
 .generalize dz (asks one) (asks other) (asks one).length=l at h2
  cases l with
  |nil=>exact absurd rfl h2
  |cons x l=>rfl
 .rw[gV rfl];exact Ed (kZ F w (n+3)) (Sx I)
end
variable(hs:F[aC]?=some eg)(hb:F[bz]?=some (fU aC))(hd:F[j5]?=some dY)(hc:F[fH]?=some (nh bz j5))(one other:U2)(b1:tot one<=60)(b2:tot other<=60)(l1:one.length<=60)(l2:other.length<=60)
include hs hb hd hc b1 b2 l1 l2
variable(hp:F[tL]?=some (mF fH bH eB aC bf))
include hp
end
def dl:List Nat->List Nat->Nat
 |[],b=>b.length
 |_ :: a,[]=>a.length+1
 |x :: a,y :: b=>if x=y then dl a b else 1+min (dl a (y :: b)) (dl (x :: a) b)
termination_by a b=>a.length+b.length
def cp:List Nat->List Nat->Nat
 |x :: a,y :: b=>if x=y then cp a b+1 else 0
 |_,_=>0
def Ym(A new:Ξ)(j:Nat):V:=.int (dl A (new.take j).reverse:Nat)
def Wt(A new:Ξ):T2:=(List.range (new.length+1)).map (Ym A new)
def Yn(z new:Ξ)(i:Nat):V:=.lst (Wt (z.take i).reverse new)
def Yo(z new:Ξ):T2:=(List.range (z.length+1)).map (Yn z new)
def eI(q:Nat×Nat):V:=.tup [.int (q.2:Int),.str [q.1]]
def enum_zip(l:Ξ):∀k:Nat,dj (k:Int) (xT l)=(l.zipIdx k).map eI:=by
 induction l with
 |nil=>intro k;rfl
 |cons c l a=>
  intro k;have:=a (k+1);simp only[xT,WL,dj,List.zipIdx_cons]at this ⊢;rw[show((k:Int)+1)=((k+1:Nat):Int)by simp,this];rfl
section
variable{i:Nat}
end
end Pv
namespace Lw
abbrev f0:Ev.Fn:=Pv.eg
abbrev f1:Ev.Fn:=Pv.fU 0
abbrev f2:Ev.Fn:=Pv.mC 0
abbrev f3:Ev.Fn:=Pv.jV 4
abbrev f4:Ev.Fn:=Pv.eY
abbrev f5:Ev.Fn:=Pv.sY 0
abbrev f6:Ev.Fn:=Pv.jW 3
abbrev f7:Ev.Fn:=Pv.kO 2 1 3 0 8 9 9
abbrev f8:Ev.Fn:=Pv.tD 9
abbrev f9:Ev.Fn:=Pv.ko 10 0
abbrev Ib:Ev.Fn:=Pv.iG
abbrev QJ:Ev.Fn:=Pv.mF 13 3 12 0 9 0
abbrev Ux:Ev.Fn:=Pv.lS
abbrev Uy:Ev.Fn:=Pv.nh 1 14 9
abbrev QK:Ev.Fn:=Pv.dY
abbrev QL:Ev.Fn:=Pv.Hs 7 11
abbrev Uz:Ev.Fn:=Pv.o6 14 17 1 5
abbrev UA:Ev.Fn:=Pv.ni
abbrev UB:Ev.Fn:=Pv.sI
abbrev UC:Ev.Fn:=Pv.sJ 18
abbrev UD:Ev.Fn:=Pv.fText 19
abbrev UE:Ev.Fn:=Pv.AH 19
abbrev Jg:Ev.Fn:=⟨2,3,(.cons (.tr 11 1002 (.cons (.v 0) (.cons (.v 1) (.cons (.c (.bl true)) .nil)))) .nil)⟩
abbrev Jh:Ev.S:=.set 4 (.tup (.cons (.tup (.cons (.c (.str [100,114,111,112])) (.cons (.c (.str [97,98,99])) .nil))) (.cons (.tup (.cons (.c (.str [107,101,101,112])) (.cons (.c (.int 1)) .nil))) .nil)))
abbrev Ji:Ev.S:=.set 5 (.lst (.cons (.tup (.cons (.tup (.cons (.c (.str [100,114,111,112])) (.cons (.c (.str [98,98,100])) .nil))) (.cons (.tup (.cons (.c (.str [107,101,101,112])) (.cons (.c (.int 1)) .nil))) .nil))) (.cons (.tup (.cons (.tup (.cons (.c (.str [107,101,101,112])) (.cons (.c (.int 1)) .nil))) (.cons (.tup (.cons (.c (.str [100,114,111,112])) (.cons (.c (.str [99,100])) .nil))) (.cons (.tup (.cons (.c (.str [107,101,101,112])) (.cons (.c (.int 1)) .nil))) .nil)))) (.cons (.tup (.cons (.tup (.cons (.c (.str [107,101,101,112])) (.cons (.c (.int 4)) .nil))) .nil)) (.cons (.v 4) .nil)))))
abbrev Jj:Ev.S:=.iff (.cmp .ne (.comp (.cl 13 (.cons (.v 4) (.cons (.v 13) .nil))) (.one 13) (.seq (.v 5)) .no) (.lst (.cons (.lst (.cons (.c (.int 0)) (.cons (.c (.int 2)) .nil))) (.cons (.lst (.cons (.c (.int 1)) (.cons (.c (.int 2)) .nil))) (.cons (.lst .nil) (.cons (.lst .nil) .nil)))))) (.cons (.ret (.c (.bl false))) .nil) .nil
abbrev Jk:Ev.S:=.set 6 (.c (.bl true))
abbrev Ck:Ev.Ss:=(.cons (.set 9 (.cl 13 (.cons (.v 7) (.cons (.v 8) .nil)))) (.cons (.iff (.orr (.cmp .ne (.v 9) (.cl 13 (.cons (.v 8) (.cons (.v 7) .nil)))) (.cmp .ne (.v 9) (.cl 13 (.cons (.cl 3 (.cons (.v 7) .nil)) (.cons (.cl 3 (.cons (.v 8) .nil)) .nil))))) (.cons (.ret (.c (.bl false))) .nil) .nil) (.cons (.iff (.cmp .ne (.v 9) (.bi .kQ (.cons (.v 9) .nil))) (.cons (.ret (.c (.bl false))) .nil) .nil) (.cons (.iff (.cmp .ne (.comp (.v 14) (.one 14) (.seq (.v 9)) (.yes (.cmp .eq (.ix (.v 1) (.v 14)) (.ix (.v 2) (.v 14))))) (.lst .nil)) (.cons (.ret (.c (.bl false))) .nil) .nil) (.cons (.set 10 (.cl 16 (.cons (.lst (.cons (.v 7) (.cons (.v 8) .nil))) .nil))) (.cons (.iff (.orr (.cmp .ne (.cmp .uT (.v 10) (.c (.aU))) (.cmp .ne (.v 9) (.lst .nil))) (.cmp .ne (.cl 22 (.cons (.v 7) (.cons (.v 8) .nil))) (.cmp .ne (.v 9) (.lst .nil)))) (.cons (.ret (.c (.bl false))) .nil) .nil) (.cons (.iff (.an (.cmp .mR (.v 10) (.c (.aU))) (.orr (.nt (.cl 5 (.cons (.v 7) (.cons (.v 10) .nil)))) (.nt (.cl 5 (.cons (.cl 15 (.cons (.v 7) (.cons (.v 8) .nil))) (.cons (.v 10) .nil)))))) (.cons (.ret (.c (.bl false))) .nil) .nil) (.cons (.set 6 (.an (.v 6) (.cmp .eq (.v 9) (.lst .nil)))) .nil))))))))
abbrev Cm:Ev.Ss:=(.cons (.for (.one 8) (.seq (.v 3)) Ck) .nil)
abbrev Cn:Ev.S:=.for (.one 7) (.seq (.v 3)) Cm
abbrev Co:Ev.S:=.iff (.cmp .ne (.cmp .mR (.cl 16 (.cons (.v 3) .nil)) (.c (.aU))) (.v 6)) (.cons (.ret (.c (.bl false))) .nil) .nil
abbrev Cp:Ev.S:=.iff (.cmp .ne (.cl 13 (.cons (.ix (.v 3) (.c (.int 0))) (.cons (.cl 6 (.cons (.bi .len (.cons (.v 1) .nil)) .nil)) .nil))) (.lst .nil)) (.cons (.ret (.c (.bl false))) .nil) .nil
abbrev yR:Ev.S:=.iff (.orr (.cmp .ne (.cl 13 (.cons (.ix (.v 3) (.c (.int 0))) (.cons (.ix (.v 3) (.c (.int 0))) .nil))) (.lst .nil)) (.cmp .ne (.cl 13 (.cons (.ix (.v 3) (.c (.int 1))) (.cons (.ix (.v 3) (.c (.int 2))) .nil))) (.lst .nil))) (.cons (.ret (.c (.bl false))) .nil) .nil
abbrev yS:Ev.S:=.ret (.an (.cmp .uT (.cl 16 (.cons (.lst (.cons (.ix (.v 3) (.c (.int 0))) (.cons (.cl 6 (.cons (.bin .add (.bi .len (.cons (.v 1) .nil)) (.c (.int 1))) .nil)) .nil))) .nil)) (.c (.aU))) (.cmp .eq (.cl 2 (.cons (.cl 6 (.cons (.c (.int 2)) .nil)) .nil)) (.c (.int 2))))
abbrev Jl:Ev.Fn:=⟨1,15,(.cons (.set 1 (.cl 20 (.cons (.v 0) (.cons (.c (.int 0)) (.cons (.c (.int 5)) .nil))))) (.cons (.set 2 (.me .join (.c (.str [])) (.cons (.comp (.iT (.cmp .gt (.cl 19 (.cons (.v 0) (.cons (.bin .add (.c (.int 10)) (.v 11)) (.cons (.c (.int 3)) .nil)))) (.c (.int 0))) (.v 12) (.c (.str [98]))) (.many [11,12]) (.lE (.v 1)) .no) .nil))) (.cons (.set 3 (.lst (.cons (.cl 21 (.cons (.v 0) (.cons (.c (.int 20)) (.cons (.v 1) .nil)))) (.cons (.cl 21 (.cons (.v 0) (.cons (.c (.int 60)) (.cons (.v 2) .nil)))) (.cons (.cl 21 (.cons (.v 0) (.cons (.c (.int 100)) (.cons (.v 2) .nil)))) .nil))))) (.cons Jh (.cons Ji (.cons Jj (.cons Jk (.cons Cn (.cons Co (.cons Cp (.cons yR (.cons yS .nil))))))))))))⟩
def prog:List Ev.Fn:=[f0,f1,f2,f3,f4,f5,f6,f7,f8,f9,Ib,QJ,Ux,Uy,QK,QL,Uz,UA,UB,UC,UD,UE,Jg,Jl]
open PySem PySem.Spec PyProof.Rows L2 Sm
open Ev (D O Hh Fr R aE E Es Eo T S Ss Fl Src bA br TY BI ME)
def top(i:Nat):Stmt:=PySem.Challenge.pw_pastways_k23_whole_clashing.main.body.getD i (.Pass ⟨0,0,0,0⟩)
abbrev fI(s:Str)(k:Nat)(ps:Y1)(a:Nat->Addr)(d:Nat->FuncData):FI:=⟨s,a k,d k,ps⟩
def gu{N P:Y1}{sc:Scope}(a:sc.kind=.function:=by rfl)(b:sc.isCoroutine=false:=by rfl)(c:sc.isGenerator=false:=by rfl)(d:N.Nodup:=by decide)(e:N.take P.length=P:=by rfl)(f:∀x∈P,sc.names.lookup x=some .local\/sc.names.lookup x=some .cell:=by decide)(g:∀y∈sc.names,y.2≠.free:=by decide):bE N P sc:=⟨a,b,c,d,e,f,g⟩
abbrev i0:=fI "size" 0 ["part"]
abbrev i1:=fI "before" 1 ["change"]
abbrev i2:=fI "after" 2 ["change"]
abbrev i3:=fI "form" 3 ["change"]
abbrev i4:=fI "stretch" 4 ["kept","gone","new"]
abbrev i5:=fI "fits" 5 ["change","text"]
abbrev i6:=fI "nothing" 6 ["many"]
abbrev i7:=fI "then" 7 ["one","other"]
abbrev i8:=fI "met" 8 ["left","gone_through"]
abbrev i9:=fI "taken" 9 ["parts","many"]
abbrev Yp:=fI "parted" 10 ["part","many"]
abbrev UG:=fI "past" 11 ["one","other","is_first"]
abbrev i12:=fI "puts_next" 12 ["parts"]
abbrev Yq:=fI "clashing" 13 ["one","other"]
abbrev Yr:=fI "dropped_signs" 14 ["change"]
abbrev Ys:=fI "merged" 15 ["one","other"]
abbrev Yt:=fI "all_fit" 16 ["changes"]
abbrev Yu:=fI "filled" 17 ["many","signs","sign"]
abbrev Yv:=fI "_law_cell" 18 ["_law_script","_law_k"]
abbrev Yw:=fI "_law_drawn" 19 ["_law_script","_law_k","_law_many"]
abbrev Yx:=fI "_law_text" 20 ["_law_script","_law_at","_law_most"]
abbrev Yy:=fI "_law_change" 21 ["_law_script","_law_at","_law_text_here"]
abbrev Yz:=fI "_law_is_clash" 22 ["_law_one","_law_other"]
abbrev UH:=fI "law" 23 ["_law_script"]
def mG:Y1:=["ValueError","all","enumerate","isinstance","len","list","min","range","reversed","set","sorted","sum","tuple"]
def SK:("all":Str)∈mG:=by decide
def zh:("enumerate":Str)∈mG:=by decide
def SM:("len":Str)∈mG:=by decide
def QM:("list":Str)∈mG:=by decide
def SN:("min":Str)∈mG:=by decide
def LL:("range":Str)∈mG:=by decide
def Cq:("reversed":Str)∈mG:=by decide
def SQ:("set":Str)∈mG:=by decide
def yT:("sorted":Str)∈mG:=by decide
def SS:("sum":Str)∈mG:=by decide
def LM:("tuple":Str)∈mG:=by decide
def tb(a:Nat->Addr)(d:Nat->FuncData):Tb:=⟨prog,100000,[i0 a d,i1 a d,i2 a d,i3 a d,i4 a d,i5 a d,i6 a d,i7 a d,i8 a d,i9 a d,Yp a d,UG a d,i12 a d,Yq a d,Yr a d,Ys a d,Yt a d,Yu a d,Yv a d,Yw a d,Yx a d,Yy a d,Yz a d,UH a d],mG,[("__name__",.str [108,97,119,95,112,97,115,116,119,97,121,115,95,107,50,51,95,119,104,111,108,101,95,99,108,97,115,104,105,110,103]),("FILLS",.tup [.str [97],.str [98]])],[]⟩
section
variable{a:Nat->Addr}{d:Nat->FuncData}{n:Nat}
abbrev n0:Y1:=["part"]
def s0:bE n0 ["part"] (aI (top 1)):=gu
abbrev n1:Y1:=["change"]
def s1:bE n1 ["change"] (aI (top 2)):=gu
abbrev n2:Y1:=["change"]
def s2:bE n2 ["change"] (aI (top 3)):=gu
abbrev n3:Y1:=["change","parts","kept","gone","new","word","what"]
def s3:bE n3 ["change"] (aI (top 4)):=gu
abbrev n4:Y1:=["kept","gone","new","parts"]
def s4:bE n4 ["kept","gone","new"] (aI (top 5)):=gu
abbrev n5:Y1:=["change","text","place","part"]
def s5:bE n5 ["change","text"] (aI (top 11)):=gu
abbrev n6:Y1:=["many"]
def s6:bE n6 ["many"] (aI (top 12)):=gu
abbrev n7:Y1:=["one","other","ones","others","parts","many"]
def s7:bE n7 ["one","other"] (aI (top 13)):=gu
abbrev n8:Y1:=["left","gone_through"]
def s8:bE n8 ["left","gone_through"] (aI (top 14)):=gu
abbrev n9:Y1:=["parts","many","halves"]
def s9:bE n9 ["parts","many"] (aI (top 15)):=gu
abbrev UI:Y1:=["part","many","word"]
def TJ:bE UI ["part","many"] (aI (top 16)):=gu
abbrev Jm:Y1:=["one","other","is_first","ones","others","parts","many","part"]
def Dc:bE Jm ["one","other","is_first"] (aI (top 18)):=gu
abbrev UJ:Y1:=["parts"]
def s12:bE UJ ["parts"] (aI (top 19)):=gu
abbrev UK:Y1:=["one","other","signs","unlike"]
def YA:bE UK ["one","other"] (aI (top 20)):=gu
abbrev UL:Y1:=["change","signs","place","part","sign"]
def YB:bE UL ["change"] (aI (top 21)):=gu
abbrev UM:Y1:=["one","other"]
def YC:bE UM ["one","other"] (aI (top 22)):=gu
abbrev UN:Y1:=["changes","signs","change","text"]
def YD:bE UN ["changes"] (aI (top 25)):=gu
abbrev UO:Y1:=["many","signs","sign"]
def YE:bE UO ["many","signs","sign"] (aI (top 26)):=gu
abbrev UP:Y1:=["_law_script","_law_k"]
def YF:bE UP ["_law_script","_law_k"] (aI (top 28)):=gu
abbrev UQ:Y1:=["_law_script","_law_k","_law_many","_law_cell_here"]
def YG:bE UQ ["_law_script","_law_k","_law_many"] (aI (top 29)):=gu
abbrev UR:Y1:=["_law_script","_law_at","_law_most"]
def YH:bE UR ["_law_script","_law_at","_law_most"] (aI (top 30)):=gu
abbrev US:Y1:=["_law_script","_law_at","_law_text_here","_law_found","_law_k","_law_new","_law_is_kept"]
def YI:bE US ["_law_script","_law_at","_law_text_here"] (aI (top 31)):=gu
abbrev UT:Y1:=["_law_one","_law_other","e"]
def YJ:bE UT ["_law_one","_law_other"] (aI (top 32)):=gu
abbrev UU:Y1:=["_law_script","_law_text_here","_law_other","_law_rows","_law_known","_law_others","_law_fine","_law_one","_law_two_of","_law_places","_law_both"]
def YK:bE UU ["_law_script"] (aI (top 33)):=gu
def gR:List (Str×Nat):=[("Clash",0)]
def rz:Ξ:=[11,15]
def su:Ξ:=[11]
def hz:Ev.pZ rz 0 prog=true:=by decide
def Wu(s:Stmt):Expr:=match eO s with
 |.Try [.Expr x _] _ _ _ _ :: _=>x
 |_=>.Constant .none 0 ⟨0,0,0,0⟩
set_option maxHeartbeats 0 in
def Hv{cl:Nat->Addr}:allB (tb a d) n [(f0.body,top 1,n0),(f1.body,top 2,n1),(f2.body,top 3,n2),(f3.body,top 4,n3),(f4.body,top 5,n4),(f5.body,top 11,n5),(f6.body,top 12,n6),(f7.body,top 13,n7),(f8.body,top 14,n8),(f9.body,top 15,n9),(Ib.body,top 16,UI),(QJ.body,top 18,Jm),(Ux.body,top 19,UJ),(Uy.body,top 20,UK),(QK.body,top 21,UL),(QL.body,top 22,UM),(Uz.body,top 25,UN),(UA.body,top 26,UO),(UB.body,top 28,UP),(UC.body,top 29,UQ),(UD.body,top 30,UR),(UE.body,top 31,US),(Jl.body,top 33,UU)]/\qH (tb a d) cl gR rz su n (aI (top 18)) Jm true (List.range Jm.length) QJ.body (eO (top 18))/\OJ (tb a d) cl su n (aI (top 32)) UT Jg.body (Wu (top 32)):=by
 refine⟨⟨?_,?_,?_,?_,?_,?_,?_,?_,?_,?_,?_,?_,?_,?_,?_,?_,?_,?_,?_,?_,?_,?_,?_,trivial⟩,vE ?_ (KH ?_ (by decide) (vE ?_ (KJ) (uf (by decide))) (uf (by decide))) (uf (by decide)),Gx (by show prog.length<=1000;decide) rfl rfl (by decide) ?_ (by decide)⟩;all_goals try dsimp only
 all_goals try dsimp only[QK,Pv.dY,Pv.vG,Pv.DP]
 all_goals repeat (first
  | ((with_reducible show JE _ _ _ _ _ _ _ (.BoolOp _ [_] _));refine M6 ?_)
  | (exists kE,(.cons (.gT _ _ _ _) _);refine FH ?_)
  | ((with_reducible show JE _ _ _ _ _ _ (.c _) (.Name _ _));refine JY (x:="FILLS") (.tail _ (.head _)))
  | (exists JE,(.v _);exact jv (by kernel_rfl))
  | (exists JA,(.cons _ _);refine JZ ?_ ?_)
  | (exists JA,.nil;refine MY)
  | (exists kE,(.cons _ _);refine Fy ?_ ?_)
  | (exists kE,.nil;refine J6)
  | (exists JE,(.c (.int _));refine MV)
  | (exists JE,(.cl _ _);refine TQ (by kernel_rfl) rfl rfl ?_)
  | (exists JE,(.c (.str _));refine MX)
  | (exists JE,(.ix _ _);refine RK (λX g=>RX) ?_ ?_)
  | (exists JS,(.ret _);refine Np ?_)
  | (exists JS,(.iff _ _ _);refine Nq ?_ ?_ ?_)
  | (exists JE,(.tup _);refine MZ ?_)
  | (exists JE,(.bin .add _ _);refine nV (λX g=>NN) ?_ ?_)
  | (exists JE,(.lst _);refine M4 ?_)
  | (exists JT,(.cmp .ne _ _);refine nX (λX g=>Ik g) ?_ ?_ (gY _))
  | (exists JT,(.cmp .eq _ _);refine nX (λX g=>Ij g) ?_ ?_ (gY _))
  | (exists JG,(.one _);exact Xl (by kernel_rfl))
  | ((with_reducible show JI _ _ _ _ _ _ (.seq _) _ _);refine Ni ?_)
  | (exists JE,(.c (.bl _));refine RH)
  | (exists JS,(.exp _);refine Nm ?_)
  | (exists JE,(.bin .mul _ _);refine nV (λX g=>NW) ?_ ?_)
  | (exists JE,(.bi .len _);refine rJ (x:="len") (id:="len") (λX g=>N1) ?_ (hb:=SM) (hv:=by kernel_rfl))
  | (exists JE,(.comp _ _ _ _);refine R3 (by kernel_rfl) (by kernel_rfl) ?_ ?_ ?_ ?_)
  | (exists JE,(.me .append _ (.cons _ _));refine Bo aaj ab9 ab8 (λX g=>Dm) rfl ?_ ?_)
  | (exists JS,(.for _ _ _);refine Nt ?_ ?_ ?_)
  | (exists JT,(.orr _ _);refine V8 ?_ ?_)
  | ((with_reducible show JW _ _ _ _ _ _ (.orr _ _) (.BoolOp _ (_ :: _ :: _) _));refine CY ?_ ?_)
  | ((with_reducible show JW _ _ _ _ _ _ _ (.BoolOp .Or [_] _));refine J0 ?_)
  | (exists JE,(.neg _);refine M5 ?_)
  | (exists JE,(.bin .mod _ _);refine nV (λX g=>NP) ?_ ?_)
  | (exists JT,(.an _ _);refine V7 ?_ ?_)
  | ((with_reducible show JW _ _ _ _ _ _ (.an _ _) (.BoolOp _ (_ :: _ :: _) _));refine HS ?_ ?_)
  | ((with_reducible show JW _ _ _ _ _ _ _ (.BoolOp .And [_] _));refine M9 ?_)
  | (exists JE,(.me .pop _ .nil);refine Nf aaj PySem.F.slot_list_pop PySem.F.type_list_pop (λX g=>N3) rfl ?_)
  | (exists JC,.no;refine RS)
  | (exists JE,(.c .aU);refine MW)
  | (exists JC,(.yes _);refine Ny ?_)
  | (exists uX,(_ :: _);refine Xm (by decide) ?_)
  | (exists JT,(.cmp .gt _ _);refine nX (λX g=>Il) ?_ ?_ (gY _))
  | (exists JO,(.yes _);refine Nd ?_)
  | (exists JE,(.cmp .eq _ _);refine nW (λX g=>Ij g) ?_ ?_ (gY _))
  | (exists JS,(.eG _);refine N5)
  | (exists JE,(.gZ (.rev _));refine Kv ?_ (h1:=QM) (hb:=Cq))
  | (exists JE,(.bin .fdiv _ _);refine nV (λX g=>Ko) ?_ ?_)
  | (exists JE,(.me .extend _ (.cons _ _));refine Bo aaj PySem.F.slot_list_extend PySem.F.type_list_extend (λX g=>Dn) rfl ?_ ?_)
  | (exists JE,(.iU _);refine N4 ?_ (h1:=LM))
  | (exists JE,(.sl _ _ _);refine RM (λX g=>NV) ?_ ?_ ?_)
  | (exists JT,(.nt _);refine RJ ?_)
  | ((with_reducible show JE _ _ _ _ _ _ (.an _ _) (.BoolOp _ (_ :: _ :: _) _));refine RI ?_ ?_)
  | (exists JE,(.me .join _ (.cons _ _));refine Bo PySem.F.plainAttrs_str PySem.F.slot_str_join PySem.F.type_str_join (λX g=>Ku) rfl ?_ ?_)
  | ((with_reducible show JI _ _ _ _ _ _ (.jM (.cons _ .nil)) _ _);refine J3 ?_ (hb:=LL))
  | (exists JE,(.bi .sum _);refine rJ (x:="sum") (id:="sum") (λX g=>NZ g) ?_ (hb:=SS) (hv:=by kernel_rfl))
  | (exists JG,(.many _);refine J5 ?_)
  | ((with_reducible show uX _ _ _ _ _ _ [] _);refine J4)
  | (exists JS,(.lX _ _);refine Nr ?_ ?_)
  | (exists JE,(.bi .min _);refine rJ (x:="min") (id:="min") (λX g=>N2 g) ?_ (hb:=SN) (hv:=by kernel_rfl))
  | (exists JO,.no;refine RL)
  | (exists JE,(.cmp .gt _ _);refine nW (λX g=>Il) ?_ ?_ (gY _))
  | (exists JE,(.jQ _ _ _);refine Nv ?_ ?_ ?_)
  | (exists JE,(.jP _ _);refine Nu ?_ ?_)
  | (exists JE,.gf;exact Ka)
  | (exists JE,(.iT _ _ _);refine M7 ?_ ?_ ?_)
  | (exists JE,(.cmp .uT _ _);refine nW (λX g=>NL) ?_ ?_ (gY _))
  | (exists JE,(.cmp .ne _ _);refine nW (λX g=>Ik g) ?_ ?_ (gY _))
  | (exists JE,(.bin .sub _ _);refine nV (λX g=>NO) ?_ ?_)
  | (exists JE,(.bi .mS _);refine rJ (x:="sorted") (id:="sorted") (λX g=>Ge g.calm) ?_ (hb:=yT) (hv:=by kernel_rfl))
  | (exists JS,(.dput _ _ _);refine Kc ?_ ?_ ?_)
  | (exists JS,(.j0 _ _);refine Ke ?_ ?_)
  | (exists JE,(.bi .all _);refine rJ (x:="all") (id:="all") (λX g=>NY g) ?_ (hb:=SK) (hv:=by kernel_rfl))
  | (exists JT,(.cmp .lt _ _);refine nX (λX g=>RW) ?_ ?_ (gY _))
  | ((with_reducible show JI _ _ _ _ _ _ (.lE _) _ _);refine Gg ?_ (zX:=zh))
  | (exists JE,(.bi .kQ _);refine Gs ?_ (h1:=yT) (hb:=SQ))
  | (exists JT,(.cmp .mR _ _);refine nX (λX g=>zT) ?_ ?_ (gY _))
  | (exists JE,(.cmp .mR _ _);refine nW (λX g=>zT) ?_ ?_ (gY _))
  | (exists JS,(.set _ _);refine V6 ?_ ?_;kernel_rfl)
  | (exists JT,_;refine Nb ?_))
end
def QN{l:List α}(h:l.length=1):∃a,l=[a]:=by
 rcases l with _|⟨a,_|⟨b,l⟩⟩<;>simp at h ⊢
def QO{l:List α}(h:l.length=2):∃a b,l=[a,b]:=by
 rcases l with _|⟨a,l⟩
 .simp at h
 .obtain⟨b,rfl⟩:=QN (l:=l) (by simpa using h);exact⟨a,b,rfl⟩
def QS{l:List α}(h:l.length=3):∃a b c,l=[a,b,c]:=by
 rcases l with _|⟨a,l⟩
 .simp at h
 .obtain⟨b,c,rfl⟩:=QO (l:=l) (by simpa using h);exact⟨a,b,c,rfl⟩
def Wv{l:List α}(h:l.length=4):∃a b c d,l=[a,b,c,d]:=by
 rcases l with _|⟨a,l⟩
 .simp at h
 .obtain⟨b,c,d,rfl⟩:=QS (l:=l) (by simpa using h);exact⟨a,b,c,d,rfl⟩
inductive AG{α:Type}(p:Nat->α->Prop):Nat->List α->Prop
 |nil {n:Nat}:AG p n []
 |cons {n:Nat} {a:α} {l:List α} (h:p n a) (t:AG p (n+1) l):AG p n (a :: l)
theorem AG.get{α:Type}{p:Nat->α->Prop}:∀{n k:Nat}{l:List α}{a:α},AG p n l->l[k]?=some a->p (k+n) a
 |n,0,a :: l,b,.cons h t,e=>by cases e;rw[acH];exact h
 |n,k+1,a :: l,b,.cons h t,e=>by rw[Nat.add_right_comm,aa5];exact AG.get t e
def AG.Ww{α:Type}{p:Nat->α->Prop}{k:Nat}{l:List α}{a:α}(h:AG p 0 l)(e:l[k]?=some a):p k a:=AG.get h e
def YL{l:Ξ}{f:Nat}{p:X9}(h:l.contains f=true)(q:∀x∈l,p x):p f:=q f (by simpa using h)
def cV{α:Type _}{p:α->Prop}{a:α}{l:List α}(h:p a)(q:∀x∈l,p x):∀x∈a :: l,p x:=List.forall_mem_cons.mpr ⟨h,q⟩
def EL{α:Type _}{p:α->Prop}:∀x∈([]:List α),p x:=λ_ h=>nomatch h
structure Fg(K:Ψ)(x:Str)(i:Nat)(p:Addr)(d:FuncData):Prop where
 a:W.nsIn K mainGlobals x=some (some (.ref p))
 f:q9 K x x (top i) p d
def Fg.t{K:Ψ}{h:Heap}{mg:Kx}{x:Str}{i:Nat}{p:Addr}{d:FuncData}{ps:Y1}(F:Fg K x i p d)(X:K.In h)(G:h.Ns mainGlobals mg)(b:Binds K d ps []):mg x=some (.ref p)/\W.keepIn K (.ref p)=true/\Binds K d ps []:=⟨Z6 X G F.a,F.f.kp,b⟩
def all_mk{l:W.OpenLaw}{w:World}{K:Ψ}{h:Heap}{mg:Kx}{fa p0 p1 p2 p3 p4 p5 p6 p7 p8 p9 UW UX UY UZ U0 U1 U3 U4 U5 U6 U7 U8 U9 QT:Addr}{d0 d1 d2 d3 d4 d5 d6 d7 d8 d9 Va Vb Vc Vd Ve Vf Vg Vh Vi Vj Vk Vl Vm QU:FuncData}(X:K.In h)(G:h.Ns mainGlobals mg)(YM:mg "law" = some (.ref fa))(F0:Fg K "size" 1 p0 d0)(F1:Fg K "before" 2 p1 d1)(F2:Fg K "after" 3 p2 d2)(F3:Fg K "form" 4 p3 d3)(F4:Fg K "stretch" 5 p4 d4)(F5:Fg K "fits" 11 p5 d5)(F6:Fg K "nothing" 12 p6 d6)(F7:Fg K "then" 13 p7 d7)(F8:Fg K "met" 14 p8 d8)(F9:Fg K "taken" 15 p9 d9)(QV:Fg K "parted" 16 UW Va)(Jo:Fg K "past" 18 UX Vb)(QW:Fg K "puts_next" 19 UY Vc)(QX:Fg K "clashing" 20 UZ Vd)(QY:Fg K "dropped_signs" 21 U0 Ve)(QZ:Fg K "merged" 22 U1 Vf)(Q0:Fg K "all_fit" 25 U3 Vg)(Q2:Fg K "filled" 26 U4 Vh)(Q3:Fg K "_law_cell" 28 U5 Vi)(Q4:Fg K "_law_drawn" 29 U6 Vj)(Q5:Fg K "_law_text" 30 U7 Vk)(Q6:Fg K "_law_change" 31 U8 Vl)(Q7:Fg K "_law_is_clash" 32 U9 Vm)(EM:Fg K "law" 33 QT QU){Wc C0:Addr}(xw:W.nsIn K mainGlobals "WayError" = some (some (.ref Wc)))(X0:OG K "Clash" C0 Wc)(z0:W.nsIn K mainGlobals "ValueError" = some none)(z1:W.nsIn K mainGlobals "all" = some none)(z2:W.nsIn K mainGlobals "enumerate" = some none)(z3:W.nsIn K mainGlobals "isinstance" = some none)(z4:W.nsIn K mainGlobals "len" = some none)(z5:W.nsIn K mainGlobals "list" = some none)(z6:W.nsIn K mainGlobals "min" = some none)(z7:W.nsIn K mainGlobals "range" = some none)(z8:W.nsIn K mainGlobals "reversed" = some none)(z9:W.nsIn K mainGlobals "set" = some none)(YN:W.nsIn K mainGlobals "sorted" = some none)(YO:W.nsIn K mainGlobals "sum" = some none)(YQ:W.nsIn K mainGlobals "tuple" = some none){t0:Tok}(q0:W.nsIn K mainGlobals "__name__" = some (some (.str "law_pastways_k23_whole_clashing" t0))){Wx Wy:Tok}{Jp:Addr}{YR:Option Addr}{YS:Nat}{YT:Array (Option Value)}(q1:W.nsIn K mainGlobals "FILLS" = some (some (.ref Jp)))(YU:K.lookup Jp=some ⟨.type "tuple",YR,.seq #[.str "a" Wx,.str "b" Wy] YS,YT⟩): ∃fd:FuncData,(∀(s:Shared) (v:Value),BindsTo s fd ⟨[v],[]⟩ [("_law_script",v)])/\∀base:Heap,K.In base->base.Ns mainGlobals mg->fc l.prog w K mg base lW 60 fa fd ["_law_script"] (ny K prog 100000 60 23):=by
 have e:=YM.symm.trans (Z6 X G EM.a);have q:QT=fa:=by injection e with e;injection e with e;exact e.symm
 subst q
 let aa:Nat->Addr:=λk=>[p0,p1,p2,p3,p4,p5,p6,p7,p8,p9,UW,UX,UY,UZ,U0,U1,U3,U4,U5,U6,U7,U8,U9,QT].getD k p0
 let dd:Nat->FuncData:=λk=>[d0,d1,d2,d3,d4,d5,d6,d7,d8,d9,Va,Vb,Vc,Vd,Ve,Vf,Vg,Vh,Vi,Vj,Vk,Vl,Vm,QU].getD k d0
 have T:Top l.prog w K mg (tb aa dd):=by
  refine⟨λf i g=>(show ∀i∈(tb aa dd).fi,mg i.name=some (.ref i.addr)/\W.keepIn K (.ref i.addr)=true/\Binds K i.fd i.ps []from ?_) i (ZA g),?_,?_,?_⟩
  .refine cV (F0.t X G (F0.f.binds ?_)) (cV (F1.t X G (F1.f.binds ?_)) (cV (F2.t X G (F2.f.binds ?_)) (cV (F3.t X G (F3.f.binds ?_)) (cV (F4.t X G (F4.f.binds ?_)) (cV (F5.t X G (F5.f.binds ?_)) (cV (F6.t X G (F6.f.binds ?_)) (cV (F7.t X G (F7.f.binds ?_)) (cV (F8.t X G (F8.f.binds ?_)) (cV (F9.t X G (F9.f.binds ?_)) (cV (QV.t X G (QV.f.binds ?_)) (cV (Jo.t X G (Jo.f.binds ?_)) (cV (QW.t X G (QW.f.binds ?_)) (cV (QX.t X G (QX.f.binds ?_)) (cV (QY.t X G (QY.f.binds ?_)) (cV (QZ.t X G (QZ.f.binds ?_)) (cV (Q0.t X G (Q0.f.binds ?_)) (cV (Q2.t X G (Q2.f.binds ?_)) (cV (Q3.t X G (Q3.f.binds ?_)) (cV (Q4.t X G (Q4.f.binds ?_)) (cV (Q5.t X G (Q5.f.binds ?_)) (cV (Q6.t X G (Q6.f.binds ?_)) (cV (Q7.t X G (Q7.f.binds ?_)) (cV (EM.t X G (EM.f.binds ?_)) EL)))))))))))))))))))))));all_goals intro _ _ _ _ _ _ us o;first | (obtain⟨_,rfl⟩:=QN o;rfl) | (obtain⟨_,_,rfl⟩:=QO o;rfl) | (obtain⟨_,_,_,rfl⟩:=QS o;rfl) | (obtain⟨_,_,_,_,rfl⟩:=Wv o;rfl)
  .exact(show ∀x∈mG,mg x=none from cV (ZW X G z0) (cV (ZW X G z1) (cV (ZW X G z2) (cV (ZW X G z3) (cV (ZW X G z4) (cV (ZW X G z5) (cV (ZW X G z6) (cV (ZW X G z7) (cV (ZW X G z8) (cV (ZW X G z9) (cV (ZW X G YN) (cV (ZW X G YO) (cV (ZW X G YQ) EL)))))))))))))
  .exact λx d j=>(show ∀y∈(tb aa dd).cs,∃v u,mg y.1=some u/\RelV v u/\zD K y.2 v from cV (⟨.str "law_pastways_k23_whole_clashing",_,Z6 X G q0,⟨_,rfl⟩,λ_ _=>⟨by decide,by decide⟩⟩) (cV (⟨.ref Jp,_,Z6 X G q1,rfl,λ_ _=>⟨Jp,[V.str "a",V.str "b"],rfl,.inr ⟨_,_,_,YU,rfl,rfl,by show 2<=sizeLine;decide,.cons ⟨_,rfl⟩ (.cons ⟨_,rfl⟩ .nil)⟩,⟨_,_,rfl,⟨by decide,by decide⟩,⟨_,_,rfl,⟨by decide,by decide⟩,rfl⟩⟩⟩⟩) EL)) (x,d) j
  .exact λx d j=>(show ∀y∈(tb aa dd).dk,∃a,mg y.1=some (.ref a)/\∀h:Heap,K.In h->StrTab l.prog w h a (tabOf y.2)from λ_ h=>nomatch h) (x,d) j
 refine⟨QU,λs v=>?_,λbase _ _=>?_⟩
 .obtain⟨oc,od,kV,r,pm,an,z,ct,A,e,_⟩:=EM.f.ex;rw[e];exact .of_eq rfl
 let cl:Nat->Addr:=λk=>[C0].getD k C0
 have B:∀x c,(x,c)∈gR->mg x=some (.ref (cl c))/\DM K (cl c):=λx c j=>(show ∀y∈gR,mg y.1=some (.ref (cl y.2))/\DM K (cl y.2)from cV (⟨Z6 X G X0.ns,X0.rs⟩) EL) (x,c) j;have R:Gw K mg Wc (cl 0) C0 "Clash" :=⟨Z6 X G xw,X0.cs.xc,X0.cs.k0,Z6 X G X0.ns,ZW X G z3,by decide⟩
 refine(ug (P:=l.prog) (w:=w) (G:=tb aa dd) (cl:=cl) (su:=su) (base:=base) (λn A0 A1=>⟨λf i g=>?_,λf i g C=>?_⟩) 60).1 23 (UH aa dd) rfl
 .obtain⟨⟨H,I,J,L,M,N,Q,Y,Z,b9,EN,YV,YW,YX,YY,YZ,Y0,Y3,Y4,Y5,Y6,Y7,Y8,_⟩,_⟩:=Hv (a:=aa) (d:=dd) (n:=n) (cl:=cl);refine AG.Ww (p:=λf i=>fc l.prog w K mg base lW (n+1) i.addr i.fd i.ps (ny K (tb aa dd).F (tb aa dd).w (n+1) f)) (k:=f) (a:=i) ?_ g;exact .cons (cX T A0 F0.f s0 rfl rfl H) (.cons (cX T A0 F1.f s1 rfl rfl I) (.cons (cX T A0 F2.f s2 rfl rfl J) (.cons (cX T A0 F3.f s3 rfl rfl L) (.cons (cX T A0 F4.f s4 rfl rfl M) (.cons (cX T A0 F5.f s5 rfl rfl N) (.cons (cX T A0 F6.f s6 rfl rfl Q) (.cons (cX T A0 F7.f s7 rfl rfl Y) (.cons (cX T A0 F8.f s8 rfl rfl Z) (.cons (cX T A0 F9.f s9 rfl rfl b9) (.cons (cX T A0 QV.f TJ rfl rfl EN) (.cons (cX T A0 Jo.f Dc rfl rfl YV) (.cons (cX T A0 QW.f s12 rfl rfl YW) (.cons (cX T A0 QX.f YA rfl rfl YX) (.cons (cX T A0 QY.f YB rfl rfl YY) (.cons (cX T A0 QZ.f YC rfl rfl YZ) (.cons (cX T A0 Q0.f YD rfl rfl Y0) (.cons (cX T A0 Q2.f YE rfl rfl Y3) (.cons (cX T A0 Q3.f YF rfl rfl Y4) (.cons (cX T A0 Q4.f YG rfl rfl Y5) (.cons (cX T A0 Q5.f YH rfl rfl Y6) (.cons (cX T A0 Q6.f YI rfl rfl Y7) (.cons (OL (ix:=2) T A0 A1 R X0.em Q7.f YJ rfl rfl rfl (Hv (cl:=cl)).2.2 ⟨rfl,rfl,rfl,rfl,rfl⟩) (.cons (cX T A0 EM.f YK rfl rfl Y8) .nil)))))))))))))))))))))))
 .revert g;revert i;refine YL (p:=λf=>∀i,(tb aa dd).fi[f]?=some i->fc l.prog w K mg base (rN l.prog w) (n+1) i.addr i.fd i.ps (xQ K cl (tb aa dd).F (tb aa dd).w (n+1) f)) C ?_;exact cV (λi g=>by obtain rfl:=ZP g;exact OB (i:=UG aa dd) T A0 A1 hz B Jo.f Dc rfl rfl (Hv (cl:=cl)).2.1) EL
end Lw
namespace Lg
open Pv
open Lw (prog Jg Jl Ck Cm Jh Ji Jj Jk Cn Co Cp yR yS)
open Ev (deep big rep cut bM)
def SV(ns:Kk)(k:Int)(x:Ξ)(b:Nat)(h:x.length<=b):(chg ns k x).length<=2*b+2/\tot (chg ns k x)<=3*b+3:=by
 have a:=oQ ns k x (x.length+1);have c:=vL ns k x (x.length+1);simp only[chg];lia
def nB{a b:Bool}(h:a=b):Pv.cop .ne (.bl a) (.bl b)=some false:=by subst h;rw[sD,K9];simp
def nN:Pv.cop .ne (.lst []) (.lst [])=some false:=by rw[sD,Ax,La];rfl
def z0(k:Nat):((0:Int)+(k:Nat))=(k:Nat):=by lia
def Q8(l:Ξ):Pv.cop .ne (jX l) (jX l)=some false:=by
 rw[sD,jX,Ax,Ay (λa b=>by rw[D8];congr 1;rw[decide_eq_decide];exact Int.ofNat_inj) l l];simp
def Y9(l:Ξ):Pv.cop .eq (jX l) (.lst [])=some (decide (l=[])):=by cases l<;>rfl
def EO(l:Ξ):Pv.cop .ne (jX l) (.lst [])=some (!decide (l=[])):=by cases l<;>rfl
def Hw(u:Ξ):aH [.keep u.length] u=true:=by simp[aH]
def f_len{c:U2}(h:aP c=c):c.length<=tot c:=by rw[<-h];exact eV (fG (ez _))
def mH{A B:Δ}{m j:Nat}:j∈dz A B m↔j<m/\(A.getD j []≠[]/\B.getD j []≠[])/\A.getD j []≠B.getD j []:=by
 unfold dz;rw[List.mem_filter,List.mem_range,acJ]
def ER{c:U2}{t:Ξ}{j:Nat}(h:aH c t=true)(h2:(asks c).getD j []≠[]):∃x,t[j]?=some x/\(asks c).getD j []=[x]:=by
 rw[dM,kP]at h;cases e1:(asks c)[j]? with
 |none=>rw[List.getD,e1]at h2;exact absurd rfl h2
 |some y=>
  have b:j<t.length:=by rw[<-h.1];exact(gL e1).1
  have a:=Zy b;rw[List.getD,e1]at h2 ⊢;exact⟨_,a,(h.2 j _ _ e1 a).resolve_left h2⟩
def yU{a b:U2}{s t:Ξ}{m j:Nat}(I:aH a s=true)(Z:aH b t=true)(h:j∈dz (asks a) (asks b) m):∃x y,s[j]?=some x/\t[j]?=some y/\x≠y:=by
 obtain⟨_,⟨c,d⟩,e⟩:=mH.mp h;obtain⟨x,f,g⟩:=ER I c;obtain⟨y,i,l⟩:=ER Z d;exact⟨x,y,f,i,λz=>e (by rw[g,l,z])⟩
def kq{a b:U2}{t:Ξ}(z:aH a t=true)(I:aH b t=true)(m:Nat):dz (asks a) (asks b) m=[]:=by
 refine List.eq_nil_iff_forall_not_mem.mpr λj h=>?_;obtain⟨x,y,d,c,e⟩:=yU z I h;rw[d]at c;exact e (ZP c)
def uF{rows:List (U2)}{m:Nat}(I:∀c∈rows,(asks c).length=m)(h:∀a∈rows,∀b∈rows,dz (asks a) (asks b) m=[]):∃t,∀c∈rows,aH c t=true:=by
 refine⟨(List.range m).map λj=>((((rows.map λc=>(asks c).getD j []).find? λy=>decide (y≠[])).getD []).headD 97),λc f=>?_⟩;rw[dM,kP];refine⟨by simp[I c f],λp y x g e=>?_⟩;rcases qT (ZA g)with z|⟨r,z⟩
 .exact .inl z
 right;subst z;rw[aaa]at e;have o:p<m:=by rw[<-I c f];exact(gL g).1
 rw[abG o]at e;have i:(asks c).getD p []=[r]:=by rw[List.getD,g];rfl
 cases ef:(rows.map λc=>(asks c).getD p []).find? λy=>decide (y≠[])with
 |none=>
  have:=List.find?_eq_none.mp ef _ (List.mem_map.mpr ⟨c,f,rfl⟩);rw[i]at this;simp at this
 |some y=>
  have l:=List.find?_some ef;obtain⟨d,A,rfl⟩:=List.mem_map.mp (List.mem_of_find?_eq_some ef);have l:(asks d).getD p []≠[]:=ZU l;have B:(asks d).getD p []=(asks c).getD p []:=by
   by_cases q:(asks d).getD p []=(asks c).getD p []
   .exact q
   .have:p∈dz (asks d) (asks c) m:=mH.mpr ⟨o,⟨l,by rw[i];simp⟩,q⟩;rw[h d A c f]at this;cases this
  simp only[ach,ef,Option.getD_some,abS]at e;rw[B,i]at e;simp at e;rw[e]
def LN{a b:U2}{m:Nat}(h1:(asks a).length=m)(h2:(asks b).length=m):qk [a,b] = !decide (dz (asks a) (asks b) m=[]):=by
 by_cases h:dz (asks a) (asks b) m=[]
 .rw[ZO h];refine jF.mpr (uF (m:=m) (λc g=>?_) λc g d i=>?_)
  .simp only[abN,List.not_mem_nil,or_false]at g;rcases g with rfl|rfl<;>assumption
  .simp only[abN,List.not_mem_nil,or_false]at g i;have f:∀A:Δ,dz A A m=[]:=λA=>List.eq_nil_iff_forall_not_mem.mpr λj z=>(mH.mp z).2.2 rfl;rcases g with rfl|rfl<;>rcases i with rfl|rfl
   .exact f _
   .exact h
   .rw[uE];exact h
   .exact f _
 .rw[ZG h];cases e:qk [a,b]with
  |true=>rfl
  |false=>
   obtain⟨t,l⟩:=jF.mp e;exact absurd (kq (l a (by simp)) (l b (by simp)) m) h
def qV(A:Δ)(m:Nat):dz A A m=[]:=List.eq_nil_iff_forall_not_mem.mpr λj z=>(mH.mp z).2.2 rfl
theorem Jq{α:Type}[DecidableEq α]:∀(l a:List α),(a++l).Nodup->l.foldl (λa k=>if k∈a then a else a++[k]) a=a++l
 |[],a,_=>by simp
 |x :: l,a,h=>by
  have b:x∉a:=λz=>by
   have:=(List.nodup_append.mp h).2.2 x z x (.head _);exact this rfl
  rw[aae,Yl b,Jq l (a++[x]) (by simpa using h)];simp
def LO{l:Kk}(h:l.Pairwise (· < ·))(z:l.length<64):cQ .kQ [.lst (l.map V.int)]=some (.lst (l.map V.int)):=by
 have b:Ev.dd l=l:=by
  have:=Jq l [] (by rw[aaH];exact List.Pairwise.imp (λq=>Int.ne_of_lt q) h);simpa[Ev.dd]using this
 show((intsOf (l.map V.int)).bind λa=>if a.length<4095/\(Ev.dd a).length<64 then dX ((Ev.sortI (Ev.dd a)).map .int)else none)=_;rw[show intsOf (l.map V.int)=some l from (sE (λi=>i) l).trans (by simp)];show(if l.length<4095/\(Ev.dd l).length<64 then _ else _)=_;rw[b,gV ⟨by lia,z⟩,qU (h.imp λq=>Int.le_of_lt q)];exact cU (bR (by simp;lia))
def AY(A B:Δ)(m:Nat):(dz A B m).length<=m:=by
 have:=acq (λj=>decide ((A.getD j []≠[]/\B.getD j []≠[])/\A.getD j []≠B.getD j [])) (List.range m);rw[List.length_range]at this;exact this
def Hx(A B:Δ){m:Nat}(h:m<64):cQ .kQ [jX (dz A B m)]=some (jX (dz A B m)):=by
 have e:jX (dz A B m)=.lst (((dz A B m).map λ(j:Nat)=>(j:Int)).map V.int):=by rw[jX,abw];rfl
 rw[e];refine LO (List.pairwise_map.mpr (List.Pairwise.imp (λ{a b} h=>?_) (List.pairwise_lt_range.filter _))) (by rw[ZF];have:=AY A B m;lia);have h:a<b:=h;lia
structure Ro(c:U2)(t:Ξ):Prop where
 ft:aH c t=true
 tt:tot c<=18
 ln:c.length<=18
 tl:t.length<=5
def yV(ns:Kk)(k:Int)(t:Ξ)(h:t.length<=5):Ro (chg ns k t) t:=by
 obtain⟨l,m⟩:=SV ns k t 5 h;exact⟨LI ns k t,by lia,by lia,h⟩
def Ro.al{c:U2}{t:Ξ}(h:Ro c t):(asks c).length=t.length:=by rw[er];exact(fF h.ft).symm
structure Rx(c:U2)(m:Nat):Prop where
 ft:∃t,aH c t=true
 tt:tot c<=18
 ln:c.length<=18
 al:(asks c).length=m
def Ro.x{c:U2}{t:Ξ}(h:Ro c t):Rx c t.length:=⟨⟨t,h.ft⟩,h.tt,h.ln,h.al⟩
theorem Rx.aP{c:U2}{m:Nat}(h:Rx c m):Rx (Pv.aP c) m:=by
 have q:=f_len (k8 c);rw[dh]at q;obtain⟨t,a⟩:=h.ft;have:=h.tt;exact⟨⟨t,by rw[m9];exact a⟩,by rw[dh];lia,by lia,by rw[cG];exact h.al⟩
def rV(rs:List (U2)):V:=.lst (rs.map aD)
section
variable{w n:Nat}{ns:Kk}
def Vn{one other:U2}(t1:tot one<=60)(t2:tot other<=60)(z:one.length<=60)(I:other.length<=60)(h:bJ one=bJ other):run prog w (n+3) 13 [.val (aD one),.val (aD other)]=some (jX (dz (asks one) (asks other) (asks one).length),[]):=
 tM (kc:=9) rfl rfl rfl rfl one other t1 t2 z I h
def cl{one other:U2}{m:Nat}(h1:Rx one m)(h2:Rx other m)(fr:Fr):cz (run prog w (n+7)) 13 [.inr (aD one),.inr (aD other)] fr=.ok (jX (dz (asks one) (asks other) m)) fr:=by
 have r:=Vn (w:=w) (n:=n+4) (one:=one) (other:=other) (by have:=h1.tt;lia) (by have:=h2.tt;lia) (by have:=h1.ln;lia) (by have:=h2.ln;lia) (by rw[<-er,<-er,h1.al,h2.al]);rw[h1.al]at r;exact call2 r
def Vo(z:5000<w){one other:U2}{t:Ξ}(h1:aH one t=true)(h2:aH other t=true)(f:Bool)(t1:tot one<=18)(t2:tot other<=18)(I:one.length<=18)(Z:other.length<=18):∃ps,Pa f (aB (Pv.aP one)) (aB (Pv.aP other)) (aB ps)/\run prog w (n+4) 11 [.val (aD one),.val (aD other),.val (.bl f)]=some (aD (Pv.aP ps),[]):=by
 have a:=Vn (w:=w) (n:=n) (one:=one) (other:=other) (by lia) (by lia) (by lia) (by lia) ((fF h1).symm.trans (fF h2));rw[kq h1 h2]at a;exact Ht (x9:=0) rfl rfl rfl rfl rfl rfl rfl z one other f t h1 h2 (by lia) (by lia) (by lia) (by lia) a
def Za(z:5000<w){one other:U2}{t:Ξ}(h1:aH one t=true)(h2:aH other t=true)(t1:tot one<=18)(t2:tot other<=18)(I:one.length<=18)(Z:other.length<=18):∃W,aH W t=true/\tot W<=900/\∀fr,cz (run prog w (n+7)) 15 [.inr (aD one),.inr (aD other)] fr=.ok (aD W) fr:=by
 obtain⟨ps,p,r⟩:=Vo (n:=n+2) z h2 h1 false t2 t1 Z I;have k:=p.len;rw[eT,eT,eT,dh,dh]at k;have q:=eV (fG (ez ps));rw[dh]at q;have c:=dh ps;obtain⟨W,a,T⟩:=Hr (F:=prog) (w:=w) (n:=n+3) (i:=7) (aC:=0) (cH:=10) (bf:=9) (dm:=8) (bC:=4) (bH:=3) (bz:=1) (dO:=2) rfl rfl rfl rfl rfl rfl rfl rfl rfl z one (Pv.aP ps) t h1 (QC h2 h1 p) (by lia) (by lia) (by lia) (by lia);have t1:=T.tt;have r:=λfr=>gq (fr:=fr) r;have a:=λfr=>call2 (fr:=fr) a;have b:run prog w (n+7) 15 [.val (aD one),.val (aD other)]=some (aD W,[]):=cC (fn:=Lw.QL) rfl rfl (ak (bT (bg (aO rfl (az rfl) (aO rfl (bg (aO rfl (az rfl) (aO rfl (az rfl) (aO rfl (aR rfl) aL))) (r _)) aL)) (a _)) ⟨rfl,rfl⟩));exact⟨W,T.fit,by lia,λfr=>call2 b⟩
def Zb(z:5000<w){one other:U2}{m:Nat}(h1:Rx one m)(h2:Rx other m)(fr:Fr):cz (run prog w (n+7)) 22 [.inr (aD one),.inr (aD other)] fr=.ok (.bl (!decide (dz (asks one) (asks other) m=[]))) fr:=by
 refine call2 (cC (fn:=Jg) rfl rfl ?_);have g:=h1.tt;have h:=h2.tt;have i:=h1.ln;have j:=h2.ln;by_cases e:dz (asks one) (asks other) m=[]
 .rw[ZO e];obtain⟨u,b⟩:=uF (rows:=[one,other]) (m:=m) (λc a=>by
   simp only[abN,List.not_mem_nil,or_false]at a;rcases a with rfl|rfl
   .exact h1.al
   .exact h2.al) λc a d f=>by
   simp only[abN,List.not_mem_nil,or_false]at a f;rcases a with rfl|rfl<;>rcases f with rfl|rfl
   .exact qV _ _
   .exact e
   .rw[uE];exact e
   .exact qV _ _
  obtain⟨ps,_,r⟩:=Vo (n:=n+2) z (b one (by simp)) (b other (by simp)) true g h i j;exact ak (Qi (vs:=[aD one,aD other,.bl true]) (aO rfl (az rfl) (aO rfl (az rfl) (aO rfl (aR rfl) aL))) r ⟨rfl,rfl⟩)
 .rw[ZG e];exact ak (Lu (vs:=[aD one,aD other,.bl true]) (aO rfl (az rfl) (aO rfl (az rfl) (aO rfl (aR rfl) aL))) (by decide) (EK (F:=prog) (w:=w) (n:=n+2) (kc:=9) (kp:=0) (aC:=0) (bz:=1) (j5:=14) (fH:=13) (tL:=11) (bH:=3) (eB:=12) (bf:=9) rfl rfl rfl rfl one other (by lia) (by lia) (by lia) (by lia) rfl (by decide) true (by rw[<-er,<-er,h1.al,h2.al]) (by rw[h1.al];exact e)) ⟨rfl,rfl⟩)
structure Al(rows:List (U2))(o:Option Ξ):Prop where
 no:o.isNone=qk rows
 fit:∀u,o=some u->∀c∈rows,aH c u=true
def Q9{rows:List (U2)}(h0:rows≠[])(hr:∀c∈rows,(∃t,aH c t=true)/\tot c<=900/\c.length<=900)(z:rows.length<=11):∃o,(∀fr,cz (run prog w (n+7)) 16 [.inr (rV rows)] fr=.ok (oV o) fr)/\Al rows o:=by
 cases rows with
 |nil=>exact absurd rfl h0
 |cons c rows=>
  obtain⟨o,r,a,b⟩:=zg (F:=prog) (w:=w) (n:=n+4) (i:=16) (aC:=0) (bz:=1) (j5:=14) (jE:=17) (kN:=5) rfl rfl rfl rfl rfl rfl c rows hr (by rw[ZH]at z;lia) .val;exact⟨o,λfr=>cJ r,a,λu e=>(b u e).2⟩
def fi(c:U2)(x:Ξ)(z:tot c<=900)(I:x.length<=900)(fr:Fr):cz (run prog w (n+7)) 5 [.inr (aD c),.inr (.str x)] fr=.ok (.bl (aH c x)) fr:=
 call2 (fr:=fr) (qQ (F:=prog) (aC:=0) (i:=5) (w:=w) (n:=n+5) rfl rfl c x (by lia) (by lia))
def no(m:Nat)(h:m<=900)(fr:Fr):cz (run prog w (n+7)) 6 [.inr (.int (m:Nat))] fr=.ok (aD (Pv.aP [.keep m])) fr:=
 cJ (fr:=fr) (ze (F:=prog) (bC:=4) (bH:=3) (i:=6) (w:=w) (n:=n+4) rfl rfl rfl m (by lia))
def fo{c:U2}{m:Nat}(h:Rx c m)(fr:Fr):cz (run prog w (n+7)) 3 [.inr (aD c)] fr=.ok (aD (Pv.aP c)) fr:=
 cJ (fr:=fr) (gG (F:=prog) (bC:=4) (i:=3) (w:=w) (n:=n+5) rfl rfl c (by have:=h.ln;lia) (by have:=h.tt;lia))
def SX{P:aE}{a e:Ev.E}{fr ah:Fr}{k:Bool}(h:ev P true a fr=.ok (.bl false) ah):ev P k (.an a e) fr=.ok (.bl false) ah:=by rw[BV,h,ao,yo];rfl
def none_of{α:Type}{f:V->Option (Option V)}(e:α->V)(l:List α)(h:∀a∈l,f (e a)=some none):cI f (l.map e)=some []:=by
 induction l with
 |nil=>rfl
 |cons a l b=>simp only[WL,cI,h a (by simp),b λu c=>h u (by simp[c]),Option.bind];rfl
def lF(ns:Kk)(s o:Ξ)(r:Sl)(l:List (Tx)):Fr:=some (.val (jk ns)) :: some (.val (.str s)) :: some (.val (.str o)) :: some r :: l
def cN(m:Nat)(a b:U2):Bool:=decide (dz (asks a) (asks b) m=[])
def SY(hw:5000<w){s o:Ξ}{m:Nat}(hs:s.length=m)(ho:o.length=m)(hm:m<=5){rows:List (U2)}{a b:U2}(ra:Ro a s\/Ro a o)(rb:Ro b s\/Ro b o){kn ot:Tx}{j6:Bool}{a8 a9 gb:Tx}(v8:vo a8)(v9:vo a9)(v10:vo gb):
  Wp (turnF (run prog w (n+7)) w (.one 8) Ck (aD b) (lF ns s o (.val (rV rows)) [kn,ot,some (.val (.bl j6)),some (.val (aD a)),a8,a9,gb,none,none,none,none])) λg fr=>g=.nx/\∃a8 a9 gb,vo a8/\vo a9/\vo gb/\fr=lF ns s o (.val (rV rows)) [kn,ot,some (.val (.bl (j6&&cN m a b))),some (.val (aD a)),a8,a9,gb,none,none,none,none]:=by
 have xa:Rx a m:=by rcases ra with h|h;exact hs▸h.x;exact ho▸h.x
 have d:Rx b m:=by rcases rb with h|h;exact hs▸h.x;exact ho▸h.x
 have r:=λfr=>cl (w:=w) (n:=n) xa d fr;have l:=λfr=>cl (w:=w) (n:=n) d xa fr;have p:=λfr=>cl (w:=w) (n:=n) xa.aP d.aP fr;have A:=λfr=>Zb (w:=w) (n:=n) hw xa d fr;have B:=λfr=>fo (w:=w) (n:=n) xa fr;have C:=λfr=>fo (w:=w) (n:=n) d fr;rw[uE]at l;rw[cG,cG]at p;have F:=xa.tt;have G:=d.tt;have H:=xa.ln;have I:=d.ln;obtain⟨O,J,AO⟩:=Q9 (w:=w) (n:=n) (rows:=[a,b]) (by simp) (λc q=>by
  simp only[abN,List.not_mem_nil,or_false]at q;rcases q with rfl|rfl
  .exact⟨xa.ft,by lia,by lia⟩
  .exact⟨d.ft,by lia,by lia⟩) (by simp)
 have K:O.isNone = !decide (dz (asks a) (asks b) m=[]):=AO.no.trans (LN xa.al d.al);have un:∀j∈dz (asks a) (asks b) m,∃x y,s[j]?=some x/\o[j]?=some y/\x≠y:=λj e=>by
  rcases ra with ra|ra<;>rcases rb with rb|rb
  .rw[kq ra.ft rb.ft]at e;cases e
  .exact yU ra.ft rb.ft e
  .obtain⟨x,y,f,i,L⟩:=yU ra.ft rb.ft e;exact⟨y,x,i,f,L.symm⟩
  .rw[kq ra.ft rb.ft]at e;cases e
 have M:=Hx (asks a) (asks b) (m:=m) (by lia);have Y:=AY (asks a) (asks b) m;unfold cN;generalize dz (asks a) (asks b) m=P at *
 refine iu (bind1 rfl v8) ?_;refine ak (bN (bg (aO rfl (az rfl) (aO rfl (az rfl) aL)) (r _)) rfl (iw rfl v9) ?_);refine iE (fY (aG rfl (bK (az rfl) (bg (aO rfl (az rfl) (aO rfl (az rfl) aL)) (l _)) (Q8 P)) rfl) (aG rfl (bK (az rfl) (bg (aO rfl (bg (aO rfl (az rfl) aL) (B _)) (aO rfl (bg (aO rfl (az rfl) aL) (C _)) aL)) (p _)) (Q8 P)) rfl)) ?_;refine iE (aG rfl (bK (az rfl) (gg (ay (az rfl) aM) M) (Q8 P)) rfl) ?_;refine iE (ah:=lF ns s o (.val (rV rows)) [kn,ot,some (.val (.bl j6)),some (.val (aD a)),some (.val (aD b)),some (.val (jX P)),gb,none,none,none,none]) (aG rfl (bK (jd (fZ (fC rfl) rfl) rfl (none_of (λj=>V.int (j:Nat)) P λj e=>?_) gO) (ee aM gO) nN) rfl) ?_
 .obtain⟨x,y,f,i,N⟩:=un j e;have i1:eK (.str s) (.int (j:Nat))=some (.str [x]):=by rw[mh,jU (acM j)];show(s[j]?).map _=_;rw[f];rfl
  have i2:eK (.str o) (.int (j:Nat))=some (.str [y]):=by rw[mh,jU (acM j)];show(o[j]?).map _=_;rw[i];rfl
  exact ux (b:=false) (v:=.aU) (bB:=[]) rfl (aG rfl (bK (cS (az rfl) (az rfl) i1) (cS (az rfl) (az rfl) i2) (lM.trans (by rw[ZG (λz=>N (List.cons.inj z).1)]))) rfl) λh=>absurd h (by decide)
 refine ak (bN (bg (aO rfl (ee (ay (az rfl) (ay (az rfl) aM)) sC) aL) (J _)) rfl (iw rfl v10) ?_);refine iE (fY (aG rfl (bK (bK (az rfl) (aR rfl) (EH O)) (bK (az rfl) (ee aM gO) (EO P)) (nB K)) rfl) (aG rfl (bK (bg (aO rfl (az rfl) (aO rfl (az rfl) aL)) (A _)) (bK (az rfl) (ee aM gO) (EO P)) (nB rfl)) rfl)) ?_;refine iE (ah:=lF ns s o (.val (rV rows)) [kn,ot,some (.val (.bl j6)),some (.val (aD a)),some (.val (aD b)),some (.val (jX P)),some (.val (oV O)),none,none,none,none]) ?_ ?_
 .cases O with
  |none=>exact oN (aG rfl (bK (az rfl) (aR rfl) (uB none)) rfl)
  |some u=>
   have f1:=AO.fit u rfl a (by simp);have f2:=AO.fit u rfl b (by simp);have Z:u.length=m:=by rw[<-xa.al,er];exact fF f1
   obtain⟨W,Q,tW,X⟩:=Za (w:=w) (n:=n) hw f1 f2 F G H I;have F1:=λfr=>fi (w:=w) (n:=n) a u (by lia) (by lia) fr;have F2:=λfr=>fi (w:=w) (n:=n) W u (by lia) (by lia) fr;rw[f1]at F1;rw[Q]at F2;exact gD (aG rfl (bK (az rfl) (aR rfl) (uB (some u))) rfl) (fY (sP (b:=true) (aG rfl (bg (aO rfl (az rfl) (aO rfl (az rfl) aL)) (F1 _)) rfl)) (sP (b:=true) (aG rfl (bg (aO rfl (bg (aO rfl (az rfl) (aO rfl (az rfl) aL)) (X _)) (aO rfl (az rfl) aL)) (F2 _)) rfl)))
 refine ak (bN (v:=.bl (j6&&decide (P=[]))) (ah:=lF ns s o (.val (rV rows)) [kn,ot,some (.val (.bl j6)),some (.val (aD a)),some (.val (aD b)),some (.val (jX P)),some (.val (oV O)),none,none,none,none]) ?_ rfl rfl (aQ ?_))
 .cases j6 with
  |false=>exact SX (az rfl)
  |true=>exact sM (az rfl) (bK (az rfl) (ee aM gO) (Y9 P))
 exact⟨rfl,_,_,_,.val,.val,.val,rfl⟩
def LP{rows:List (U2)}{m:Nat}(z:∀c∈rows,(asks c).length=m):qk rows = !(rows.all λa=>rows.all (cN m a)):=by
 cases e:rows.all λa=>rows.all (cN m a)with
 |true=>
  rw[List.all_eq_true]at e;refine jF.mpr (uF z λa d b g=>?_);have:=e a d;rw[List.all_eq_true]at this;exact ZU (this b g)
 |false=>
  cases f:qk rows with
  |true=>rfl
  |false=>
   obtain⟨t,h⟩:=jF.mp f;have:(rows.all λa=>rows.all (cN m a))=true:=by
    rw[List.all_eq_true];intro a d;rw[List.all_eq_true];intro b g;exact ZO (kq (h a d) (h b g) m)
   rw[this]at e;cases e
def S6(hw:5000<w){s o:Ξ}{m:Nat}(hs:s.length=m)(ho:o.length=m)(hm:m<=5){rows:List (U2)}(rr:∀c∈rows,Ro c s\/Ro c o){a:U2}(ra:Ro a s\/Ro a o){kn ot:Tx}{j6:Bool}{a7 z I Z:Tx}(v7:vo a7)(v8:vo z)(v9:vo I)(v10:vo Z):
  Wp (turnF (run prog w (n+7)) w (.one 7) Cm (aD a) (lF ns s o (.val (rV rows)) [kn,ot,some (.val (.bl j6)),a7,z,I,Z,none,none,none,none])) λg fr=>g=.nx/\∃a7 z I Z,vo a7/\vo z/\vo I/\vo Z/\fr=lF ns s o (.val (rV rows)) [kn,ot,some (.val (.bl (j6&&rows.all (cN m a)))),a7,z,I,Z,none,none,none,none]:=by
 refine iu (bind1 rfl v7) ?_;refine ak (sR (vs:=rows.map aD) (ah:=lF ns s o (.val (rV rows)) [kn,ot,some (.val (.bl j6)),some (.val (aD a)),z,I,Z,none,none,none,none]) (fZ (fC rfl) rfl) ?_);refine jy (e:=aD) (λp l fr=>p++l=rows/\∃z I Z,vo z/\vo I/\vo Z/\fr=lF ns s o (.val (rV rows)) [kn,ot,some (.val (.bl (j6&&p.all (cN m a)))),some (.val (aD a)),z,I,Z,none,none,none,none]) (λp b l fr ⟨f,z,I,Z,v8,v9,v10,d⟩=>?_) (λp fr ⟨f,z,I,Z,v8,v9,v10,d⟩=>?_) rows [] _ ⟨rfl,z,I,Z,v8,v9,v10,by simp⟩
 .subst d;refine(SY hw hs ho hm ra (rr b (by rw[<-f];simp)) v8 v9 v10).mono λg fr ⟨h,i,j,EN,q,r,y,e⟩=>?_;subst h;refine⟨by rw[<-f];simp,i,j,EN,q,r,y,?_⟩;rw[e,List.all_append,Bool.and_assoc];simp
 .subst d;rw[ZK]at f;subst f;exact aQ ⟨rfl,_,z,I,Z,.val,v8,v9,v10,rfl⟩
def Ra{rows:List (U2)}{k:Nat}{c:U2}(h:rows[k]?=some c):eK (rV rows) (.int (k:Int))=some (aD c):=by
 rw[rV,pI,jU (acM k)];show(rows.map aD)[k]?=_;rw[aaa,h];rfl
def mid(hw:5000<w){s o:Ξ}{m:Nat}(hs:s.length=m)(ho:o.length=m)(hm:m<=5){r0 r1 r2:U2}(h0:Ro r0 s)(h1:Ro r1 o)(h2:Ro r2 o){kn ot:Tx}:
  Wp (exs (run prog w (n+7)) w (.cons Cn (.cons Co (.cons Cp (.cons yR (.cons yS .nil))))) (lF ns s o (.own ([r0,r1,r2].map aD)) [kn,ot,some (.val (.bl true)),none,none,none,none,none,none,none,none])) λg fr=>g=.ret (.bl true)/\outs 1 fr=[]:=by
 have L:∀c∈[r0,r1,r2],Ro c s\/Ro c o:=λc d=>by
  simp only[abN,List.not_mem_nil,or_false]at d;rcases d with rfl|rfl|rfl
  .exact .inl h0
  .exact .inr h1
  .exact .inr h2
 have A:∀c∈[r0,r1,r2],Rx c m:=λc d=>by rcases L c d with h|h;exact hs▸h.x;exact ho▸h.x
 have r:=A r0 (by simp);have x1:=A r1 (by simp);have x2:=A r2 (by simp);obtain⟨O,rO,AO⟩:=Q9 (w:=w) (n:=n) (rows:=[r0,r1,r2]) (by simp) (λc d=>by have:=A c d;exact⟨this.ft,by have:=this.tt;lia,by have:=this.ln;lia⟩) (by simp);have nO:O.isNone=_:=AO.no.trans (LP (m:=m) λc d=>(A c d).al);have i0:=Ra (rows:=[r0,r1,r2]) (k:=0) rfl;have i1:=Ra (rows:=[r0,r1,r2]) (k:=1) rfl;have i2:=Ra (rows:=[r0,r1,r2]) (k:=2) rfl;have G:∀k:Nat,tot (Pv.aP [.keep k])=k:=λk=>by rw[dh];simp[tot,Pt.n]
 have M:∀k:Nat,(Pv.aP [.keep k]).length<=k:=λk=>by have:=f_len (k8 [.keep k]);rw[G]at this;exact this
 have P:∀k:Nat,aH (Pv.aP [.keep k]) (List.replicate k 0)=true:=λk=>by rw[m9];have:=Hw (List.replicate k 0);rwa [abu]at this
 have N:∀k:Nat,asks (Pv.aP [.keep k])=List.replicate k []:=λk=>by rw[cG];simp[asks,Pt.asks]
 have xN:Rx (Pv.aP [.keep m]) m:=⟨⟨_,P m⟩,by rw[G];lia,by have:=M m;lia,by rw[N];simp⟩
 have W:=λfr=>cl (w:=w) (n:=n) r xN fr;have X:=λfr=>cl (w:=w) (n:=n) r r fr;have Y:=λfr=>cl (w:=w) (n:=n) x1 x2 fr;have e1:dz (asks r0) (asks (Pv.aP [.keep m])) m=[]:=List.eq_nil_iff_forall_not_mem.mpr λj z=>by
  have:=(mH.mp z).2.1.2;rw[N,List.getD_eq_getElem?_getD]at this;by_cases q:j<m
  .rw[acf,gV q]at this;exact this rfl
  .rw[acf,Yl q]at this;exact this rfl
 rw[e1]at W;rw[qV]at X;rw[kq h1.ft h2.ft]at Y;have n1:=λfr=>no (w:=w) (n:=n) m (by lia) fr;have n2:=λfr=>no (w:=w) (n:=n) (m+1) (by lia) fr;have n3:=λfr=>no (w:=w) (n:=n) 2 (by lia) fr;obtain⟨Q,rQ,AQ⟩:=Q9 (w:=w) (n:=n) (rows:=[r0,Pv.aP [.keep (m+1)]]) (by simp) (λc d=>by
  simp only[abN,List.not_mem_nil,or_false]at d;rcases d with rfl|rfl
  .exact⟨r.ft,by have:=r.tt;lia,by have:=r.ln;lia⟩
  .exact⟨⟨_,P _⟩,by rw[G];lia,by have:=M (m+1);lia⟩) (by simp)
 have nQ:Q.isNone=true:=by
  rw[AQ.no];cases f:qk [r0,Pv.aP [.keep (m+1)]]with
  |true=>rfl
  |false=>
   obtain⟨t,Z⟩:=jF.mp f;have q1:=fF (Z r0 (by simp));have q2:=fF (Z (Pv.aP [.keep (m+1)]) (by simp));rw[<-er,r.al]at q1;rw[<-er,N,abu]at q2;lia
 have l1:cQ .len [.str s]=some (.int (m:Nat)):=by rw[Pv.aaR (by lia),hs]
 have a1:Pv.bX .add (.int (m:Nat)) (.int 1)=some (.int ((m+1:Nat):Int)):=fS;have af:=λfr=>cJ (fr:=fr) (vJ (F:=prog) (w:=w) (n:=n+5) (aC:=0) (i:=2) rfl rfl (Pv.aP [.keep 2]) (by have:=M 2;lia) (by rw[G];lia));have ae:Pv.iy (Pv.aP [.keep 2])=2:=by rw[qO];rfl
 rw[ae]at af;refine ak (sR (vs:=[r0,r1,r2].map aD) (ah:=lF ns s o (.val (rV [r0,r1,r2])) [kn,ot,some (.val (.bl true)),none,none,none,none,none,none,none,none]) (fZ (fC rfl) rfl) ?_);refine jy (e:=aD) (λp l fr=>p++l=[r0,r1,r2]/\∃H I J K,vo H/\vo I/\vo J/\vo K/\fr=lF ns s o (.val (rV [r0,r1,r2])) [kn,ot,some (.val (.bl (p.all λa=>[r0,r1,r2].all (cN m a)))),H,I,J,K,none,none,none,none]) (λp b l fr ⟨B,H,I,J,K,v7,v8,v9,C,y⟩=>?_) (λp fr ⟨B,H,I,J,K,v7,v8,v9,C,y⟩=>?_) [r0,r1,r2] [] _ ⟨rfl,none,none,none,none,.none,.none,.none,.none,rfl⟩
 .subst y;refine(S6 hw hs ho hm L (L b (by rw[<-B];simp)) v7 v8 v9 C).mono λg fr ⟨hg,b7,b8,b9,EN,u7,u8,u9,vg,e⟩=>?_;subst hg;refine⟨by rw[<-B];simp,b7,b8,b9,EN,u7,u8,u9,vg,?_⟩;rw[e,List.all_append];simp
 .subst y;rw[ZK]at B;subst B;refine iE (aG rfl (bK (bK (bg (aO rfl (az rfl) aL) (rO _)) (aR rfl) (uB O)) (az rfl) (nB (by rw[nO,Bool.not_not]))) rfl) ?_;refine iE (aG rfl (bK (bg (aO rfl (cS (az rfl) (aR rfl) i0) (aO rfl (bg (aO rfl (gg (ay (az rfl) aM) l1) aL) (n1 _)) aL)) (W _)) (ee aM gO) (EO [])) rfl) ?_;refine iE (fY (aG rfl (bK (bg (aO rfl (cS (az rfl) (aR rfl) i0) (aO rfl (cS (az rfl) (aR rfl) i0) aL)) (X _)) (ee aM gO) (EO [])) rfl) (aG rfl (bK (bg (aO rfl (cS (az rfl) (aR rfl) i1) (aO rfl (cS (az rfl) (aR rfl) i2) aL)) (Y _)) (ee aM gO) (EO [])) rfl)) ?_;refine ak (bT (sM (bK (bg (aO rfl (ee (ay (cS (az rfl) (aR rfl) i0) (ay (bg (aO rfl (cK (gg (ay (az rfl) aM) l1) (aR rfl) a1) aL) (n2 _)) aM)) sC) aL) (rQ _)) (aR rfl) ((EH Q).trans (by rw[nQ]))) (bK (bg (aO rfl (bg (aO rfl (aR rfl) aL) (n3 _)) aL) (af _)) (aR rfl) GY)) ⟨rfl,rfl⟩)
variable(hn:ns.length<=63)
def rL(ns:Kk)(s:Ξ):Ξ:=(s.zipIdx 0).map λq=>if 0<cD ns (10+(q.2:Nat)) 3 then q.1 else 98
def LQ(ns:Kk)(s:Ξ):(rL ns s).length=s.length:=by simp[rL]
def k0:U2:=[.drop [97,98,99],.keep 1]
def k1:U2:=[.drop [98,98,100],.keep 1]
def k2:U2:=[.keep 1,.drop [99,100],.keep 1]
def k3:U2:=[.keep 4]
def Rb:∀c∈[k1,k2,k3,k0],Rx c 4:=λc a=>by
 simp only[abN,List.not_mem_nil,or_false]at a;rcases a with rfl|rfl|rfl|rfl
 .exact⟨⟨[98,98,100,0],by decide⟩,by decide,by decide,by decide⟩
 .exact⟨⟨[0,99,100,0],by decide⟩,by decide,by decide,by decide⟩
 .exact⟨⟨[0,0,0,0],by decide⟩,by decide,by decide,by decide⟩
 .exact⟨⟨[97,98,99,0],by decide⟩,by decide,by decide,by decide⟩
def S7:Pv.cop .ne (.lst ([k1,k2,k3,k0].map λc=>jX (dz (asks k0) (asks c) 4))) (.lst [.lst [.int 0,.int 2],.lst [.int 1,.int 2],.lst [],.lst []])=some false:=by
 have a:dz (asks k0) (asks k1) 4=[0,2]:=by decide
 have b:dz (asks k0) (asks k2) 4=[1,2]:=by decide
 have d:dz (asks k0) (asks k3) 4=[]:=by decide
 have e:dz (asks k0) (asks k0) 4=[]:=by decide
 rw[WL,WL,WL,WL,aa7,a,b,d,e];rfl
include hn
theorem Rc(Z:5000<w):run prog w (n+8) 23 [.val (jk ns)]=some (.bl true,[]):=by
 have f:(txt ns 0 5).length<=5:=Lv ns 0 (most:=5) (by decide);have y:=λfr=>gq (fr:=fr) (G0 (F:=prog) (c:=18) (dr:=19) (t:=20) (w:=w) (n:=n+4) rfl rfl hn rfl 0 5 (by decide) (by decide));generalize txt ns 0 5=s at f y
 have g:=LQ ns s;have i:=λ(k:Int) (t:Ξ) (h:t.length<=5) fr=>gq (fr:=fr) (Ca (F:=prog) (c:=18) (dr:=19) (t:=21) (w:=w) (n:=n+4) rfl rfl hn rfl k t (by lia));have B8:cI (kY (run prog w (n+7)) (.iT (.cmp .gt (.cl 19 (.cons (.v 0) (.cons (.bin .add (.c (.int 10)) (.v 11)) (.cons (.c (.int 3)) .nil)))) (.c (.int 0))) (.v 12) (.c (.str [98]))) (.many [11,12]) .no [some (.val (jk ns)),some (.val (.str s)),none,none,none,none,none,none,none,none,none,none,none,none,none]) (dj 0 (xT s))=some (((s.zipIdx 0).map λq=>[if 0<cD ns (10+(q.2:Nat)) 3 then q.1 else 98]).map V.str):=by
  have e:=enum_zip s 0;rw[show(((0:Nat):Int))=0 from rfl]at e;rw[e,abw];refine iM _ _ _ λq _=>?_;have d:=λfr=>gq (fr:=fr) (gE (F:=prog) (c:=18) (dr:=19) (w:=w) (n:=n+5) rfl rfl hn (10+(q.2:Nat)) (many:=3) (by decide));have z:∀b,decide (0<cD ns (10+(q.2:Nat)) 3)=b->bu (run prog w (n+7)) (.cmp .gt (.cl 19 (.cons (.v 0) (.cons (.bin .add (.c (.int 10)) (.v 11)) (.cons (.c (.int 3)) .nil)))) (.c (.int 0))) [some (.val (jk ns)),some (.val (.str s)),none,none,none,none,none,none,none,none,none,some (.val (.int (q.2:Nat))),some (.val (.str [q.1])),none,none]=.ok b [some (.val (jk ns)),some (.val (.str s)),none,none,none,none,none,none,none,none,none,some (.val (.int (q.2:Nat))),some (.val (.str [q.1])),none,none]:=λb J=>by
   refine aG rfl (bK (bg (aO rfl (az rfl) (aO rfl (cK (aR rfl) (az rfl) fS) (aO rfl (aR rfl) aL))) (d _)) (aR rfl) B5) ?_;rw[J];rfl
  by_cases p:0<cD ns (10+(q.2:Nat)) 3
  .refine(kM rfl (vY (b:=true) (z true (ZO p)) (λ_=>az rfl) λh=>absurd h (by decide))).trans ?_;simp[p]
  .refine(kM rfl (vY (b:=false) (z false (ZG p)) (zN ·) λ_=>aR rfl)).trans ?_;simp[p]
 have fl:((s.zipIdx 0).map λq=>[if 0<cD ns (10+(q.2:Nat)) 3 then q.1 else 98]).flatten=rL ns s:=lO _ _;have j:=BU (l:=(s.zipIdx 0).map λq=>[if 0<cD ns (10+(q.2:Nat)) 3 then q.1 else 98]) (by rw[fl,g];lia);rw[fl]at j;have Qm:dX (((s.zipIdx 0).map λq=>[if 0<cD ns (10+(q.2:Nat)) 3 then q.1 else 98]).map V.str)=some (.lst _):=cU (bR (by simp;lia));have a:(rL ns s).length<=5:=by lia
 generalize rL ns s=o at g j a
 have A:=yV ns 20 s f;have B:=yV ns 60 o a;have C:=yV ns 100 o a;have G:=λfr=>i 20 s f fr;have H:=λfr=>i 60 o a fr;have I:=λfr=>i 100 o a fr;generalize chg ns 20 s=r0 at A G
 generalize chg ns 60 o=r1 at B H
 generalize chg ns 100 o=r2 at C I
 have K:=λc (r:c∈[k1,k2,k3,k0]) fr=>cl (w:=w) (n:=n) (Rb k0 (by simp)) (Rb c r) fr;refine cC (fn:=Jl) rfl rfl ?_;refine ak (bN (bg (aO rfl (az rfl) (aO rfl (aR rfl) (aO rfl (aR rfl) aL))) (y _)) rfl rfl ?_);refine ak (bN (vZ rfl (aR rfl) (ay (jd (Ls (az rfl)) rfl B8 Qm) aM) j) rfl rfl ?_);refine ak (ir (l:=[r0,r1,r2].map aD) (ee (ay (bg (aO rfl (az rfl) (aO rfl (aR rfl) (aO rfl (az rfl) aL))) (G _)) (ay (bg (aO rfl (az rfl) (aO rfl (aR rfl) (aO rfl (az rfl) aL))) (H _)) (ay (bg (aO rfl (az rfl) (aO rfl (aR rfl) (aO rfl (az rfl) aL))) (I _)) aM))) (cU (by simp))) rfl rfl ?_);refine ak (bN (v:=aD k0) (eE (ay (eE (ay (aR rfl) (ay (aR rfl) aM)) gP) (ay (eE (ay (aR rfl) (ay (aR rfl) aM)) gP) aM)) gP) rfl rfl ?_);refine ak (ir (l:=[k1,k2,k3,k0].map aD) (ee (ay (eE (ay (eE (ay (aR rfl) (ay (aR rfl) aM)) gP) (ay (eE (ay (aR rfl) (ay (aR rfl) aM)) gP) aM)) gP) (ay (eE (ay (eE (ay (aR rfl) (ay (aR rfl) aM)) gP) (ay (eE (ay (aR rfl) (ay (aR rfl) aM)) gP) (ay (eE (ay (aR rfl) (ay (aR rfl) aM)) gP) aM))) rfl) (ay (eE (ay (eE (ay (aR rfl) (ay (aR rfl) aM)) gP) aM) sA) (ay (az rfl) aM)))) (cU (by simp))) rfl rfl ?_);refine iE (ah:=lF ns s o (.own ([r0,r1,r2].map aD)) [some (.val (aD k0)),some (.own ([k1,k2,k3,k0].map aD)),none,none,none,none,none,none,none,none,none]) (aG rfl (bK (jd (fZ (fC rfl) rfl) rfl (iM aD (λc=>jX (dz (asks k0) (asks c) 4)) [k1,k2,k3,k0] λc r=>kM rfl (bg (aO rfl (az rfl) (aO rfl (az rfl) aL)) (K c r _))) (cU (by simp))) (ee (ay (ee (ay (aR rfl) (ay (aR rfl) aM)) sC) (ay (ee (ay (aR rfl) (ay (aR rfl) aM)) sC) (ay (ee aM gO) (ay (ee aM gO) aM)))) (cU (by simp))) S7) rfl) ?_;refine ak (bN (aR rfl) rfl rfl ?_);exact mid Z rfl g f A B C
end
def good:∀ns:Kk,ns.length<=63->∃h',Ev.run prog 100000 60 23 [.ref 0] [.bQ (ns.map Ev.D.int)]=.ok (.bl true) h':=λns h=>K6 (Rc (w:=100000) (n:=52) h (by decide))
end Lg
theorem Lw.good:∀ns:Kk,ns.length<=63->∃h',Ev.run Lw.prog 100000 60 23 [.ref 0] [.bQ (ns.map Ev.D.int)]=.ok (.bl true) h':=Lg.good
open Lean in
local macro_rules|`(command|#print $s:str)=>do
 let f:Array Ident:=((s.getString.splitOn " ").map λx=>mkIdent (.mkSimple ("tw"++toString (x.foldl (λn c=>let k:=c.toNat;62*n+if k<58 then k-48 else if k<91 then k-55 else k-61) 0)))).toArray
 `(command|structure $(mkIdent `PySem.W.Fast):ident:Prop where($f:ident* :True))
#print "6Ian3Lf54Dq Ivg9Y0SVfOr FneWhVDAi7z IcmK1cJXY1g 42vsQyV7uUM AE6Nn0zJTsY Ln1K79becq9 4jQM924MUKl 7qMYomNBnA8 JhWOztWCc0L sozXc3Y3nO CPgkFZV42gw LJ39XOWJyP6 HXSpnXa4cbI BI5TUmCdSiX AinuumjzQ20 DSVbPlK0cwc 1II3QVVgs3S AohiilzNGzg 8QDvAR8VVZZ D5UwiQm9P8z HDiSxn69i0k CMBMHF2t4V2 A2rLZFleoIp 3CDEKedztYf Hz3vc6uUXfZ ASy65e70dbI 4Bg4OsyUoSy LEwmeO9o8jy AsLDuOu8kAr lOoLSywcuU HEo8GCEUUPQ KPzqPER6H41 H1kOqhOlbm8 54KM2MmZHTw Jbch6KntcFT GcWIJyQejmj 4Q4lH3wlPc7 4yyPmRuY4EH 4xQMJ56LM6g BnrftCemdeq FYWVcMGX0hn EOchEvFAfkl 46HsbMFfmMT 2a73RijPR3R 9gFh0w0rgYS 6lJ6V55w5ug DyGSonZ1aDy FEmtRbdjIWh 5LY4tBZTz1c GC9RvRTJ2Fd CCS7xpe4Rrh 1gJpzN40Fir IP1b1qbD7t9 3GfQhFtskwZ LdMFdyaXPrs 36ovoQZW6TN 12UuaQQFfIH 1IFh1XJpIlY 15vntWHCMx5 AABA62qN32E 9XgkwA9CZyn 5RmXmPfOMQe 6esGxQZPaET 3CAwVLYLPhS xl5Ikuf9b0 2PI9cbHlYWd ClcLVOcmWVQ 7v2onW4zTYQ v6gqBP9iYh Ejeg929M6nb cQEx9RcUOa G75zEUqLYHw IX3LFN0mctO KJjVTZPgXSL Cu2NxxpLGrj DxEgCihGr0Z HX6HRjVYYHw CHPwtF60a05 3KX1pe1CQtl CG7nF6H67El 43NFqRcCg5z Kp6n6wokNAx DRowMC8onYv I9vD4FkyKUa KKI5TCcWXCu Jwe1a3D3r0e 21okmLWqflq vgXBwKdb7E 1AwIncnADzs 849N3q1CX6P DpPiwMw7VAN 7BRexoKPPn4 EDl2ZcqbN0P 4KXJOCme8jR 5NZmm6q4FL5 2MCTG0EOCG1 4QcDHEi7EoV G8mYpITpJZc 9KdqtEIx2pn D4suQJCBo4y Gsus2yogSrQ 7EK2IToKyZi 8Am7EmGUj1M HY0NT971qRY J4jKiAFLGwq LkUVA2anX1T 1ApnqkfaTpr GHJ2oJ0A1A9 I1oKIXlwxeQ 8bWIHHeYwvD sh1QiAj8H9 GtmyXGDs0bK F776Hr7HZOV 4brsjxrzI8U 1dZDgEpZQfC 5EioJ0IXDiC Dq2uQPDiPUx TE36fiJ9QB 22xkevlMB3I F0bWmhfkim4 4Es2RMUOjbT 7cLPgIaUtVp A3jP5tVlXHI 3brebDCQfho AyHWwLtbYOn 8KyN1xrRpWf K31H3AqYOJm kCl6HQKvYC KwLShGcwe9Q HLhV79l0wGC 9HGTngbIHoF GAUdHVMEsKC 8EaKP7CU94Y AoUVWnkMx0z 7mqKwNimLbp 79uhoMHSVSE KwoPePr6p9w ICV3gDXyXIq LRwVdjuweIn 3GIhWkUDxKU BqT5UwnTEEU 1M97x791BP0 8GbDSOlQZgY 8vO14ZtdXZT Ep2yJBzgt1C BWvfQetpO5k 6q2zLR1QvJ6 2wIwX0o7TWv 1YjKkun1quh DZm082T72yp GTRYOeUStA3 LTXEcDvDoql K9l3cM01A0l BWGMpIbcEU5 ELAnalYbdms EOgnrXcut5l 1rybMzfv96G TQinf9LdoM 9G9gKuDdLM3 G6n0kDwNIpJ Iqf4PgLBVrM 9qPQWszyvIE BoVgcEeCtQL J0apppareY1 2uHuyXFfRLL ALsLHQd5it7 CMF8pt0rdLv B8L1yJFZTLa JsN90nmcXk6 7mbtDA3uvSc AmuvQiPtpfz F0sjM48vmXA BeZ5yVJwEGZ 3u1Z0vA83OH 5I0smFqgytA 3JkLQyft4bh E8dq6h2wZby IOeCFllAQ9J 8oorOYTyzNy 8zNUf08ApMz FxJOViXqFZ0 KZDIicIYfnE 5PVx7BSREYn 5o61MINItBK HmHEwgb2Cio GoX388NXmBl 2FsGjouOrHA 1NikrCa4SB8 695CdfZ6m4P GqJUUXwsI9E EIXFAqn2RiW B9JD3TZ3JtX"
open PySem PySem.W PyProof.Rows
set_option maxRecDepth 100000 in
set_option maxHeartbeats 0 in
theorem PySem.Challenge.cw_pastways_k23_whole_clashing_holds : PySem.Challenge.rw_pastways_k23_whole_clashing.Holds := by
 w_on;o_law;k_head;(case hw=>w_witness2)
 k_fill
 refine Sm.Kw (F:=Lw.prog) (wh:=100000) (n:=60) (f:=23) (x:="_law_script") (l:=PySem.Challenge.rw_pastways_k23_whole_clashing) rfl rfl ⟨rfl,by decide,by decide⟩ (λw h Y=>PySem.W.kIn_of Y) Lw.good ?F
 case F=>
  intro w mg fa h KX G hmg
  refine' Lw.all_mk KX G hmg ⟨_,L2.cy _ _ _⟩ ⟨_,L2.cy _ _ _⟩ ⟨_,L2.cy _ _ _⟩ ⟨_,L2.cy _ _ _⟩ ⟨_,L2.cy _ _ _⟩ ⟨_,L2.cy _ _ _⟩ ⟨_,L2.cy _ _ _⟩ ⟨_,L2.cy _ _ _⟩ ⟨_,L2.cy _ _ _⟩ ⟨_,L2.cy _ _ _⟩ ⟨_,L2.cy _ _ _⟩ ⟨_,L2.cy _ _ _⟩ ⟨_,L2.cy _ _ _⟩ ⟨_,L2.cy _ _ _⟩ ⟨_,L2.cy _ _ _⟩ ⟨_,L2.cy _ _ _⟩ ⟨_,L2.cy _ _ _⟩ ⟨_,L2.cy _ _ _⟩ ⟨_,L2.cy _ _ _⟩ ⟨_,L2.cy _ _ _⟩ ⟨_,L2.cy _ _ _⟩ ⟨_,L2.cy _ _ _⟩ ⟨_,L2.cy _ _ _⟩ ⟨_,L2.cy _ _ _⟩ _ (Sm.KN _ _ _ _ _ _) _ _ _ _ _ _ _ _ _ _ _ _ _ _ _ _;all_goals try first|k_is|rfl|decide | (with_unfolding_all rfl)
  all_goals kernel_rfl

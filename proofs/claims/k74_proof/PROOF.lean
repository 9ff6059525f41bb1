import PyProof.Rows.All
import Wide.All
import OpenK.AllK
import Wide.FinOn
import Lean
import PyProof.EqAt
import PyProof.EqKinds
import PyProof.TupleCall
import PyProof.NeKinds
import PyProof.StrLawsIn
import KE.KRevSl
import PyProof.ZipIter
import PyProof.ListRange
import PyProof.Rows.Range3
import KE.KStateDown
import PyProof.Rows.SortStr
import KE.KRevIter
import PyProof.EnumMake
import PyProof.EnumFor
import KE.KIntText
import PyProof.CallStr
import PySem.Challenge.RW_pastways_k74_whole_back_and_twins
set_option bootstrap.genMatcherCode false
set_option compiler.extract_closed false
set_option maxHeartbeats 4000000
noncomputable section
set_option Elab.async false
set_option linter.all false
set_option maxRecDepth 100000
def gv:=@PySem.wpAny_bind
def gV:=@List.getElem?_append_left
def xC:=@if_pos
def Kc:=@List.getElem?_set_ne
def Rx:=@List.getElem?_eq_getElem
def Vb:=@Option.some.inj
def Vw:=@Option.map_eq_some_iff
def ZJ:=@Bool.and_eq_true
def ZK:=@PySem.Heap.get?_push_of_some
def ZL:=@List.size_toArray
def ZM:=@List.mem_of_getElem?
def ZN:=@Nat.lt_of_lt_of_le
def ZO:=@Nat.le_refl
def ZP:=@List.getElem?_set_self
def ZQ:=@Option.bind_eq_some_iff
def ZR:=@PySem.wpAny_pure
def ZS:=@if_neg
def ZT:=@List.map_cons
def ZU:=@List.length_cons
def ZV:=@List.replicate_succ
def ZW:=@PySem.Heap.lt_size
def ZX:=@List.length_append
def ZY:=@List.mem_cons_of_mem
def ZZ:=@List.map_append
def Z0:=@congrArg
def Z1:=@PySem.Heap.get?_push_size
def Z2:=@Nat.le_trans
def Z3:=@List.reverse_cons
def Z4:=@if_true
def Z5:=@List.getElem?_append_right
def Z6:=@decide_eq_false
def Z7:=@List.getElem?_map
def Z8:=@List.mem_singleton
def Z9:=@Bool.false_eq_true
def aaa:=@List.length_map
def aab:=@List.mem_append_right
def aac:=@List.getElem?_eq_none
def aad:=@Nat.ne_of_lt
def aae:=@decide_eq_true
def aaf:=@List.append_nil
def aag:=@of_decide_eq_true
def aah:=@Nat.lt_irrefl
def aai:=@List.mem_cons_self
def aaj:=@List.take_of_length_le
def aak:=@List.take_succ_cons
def aal:=@List.length_singleton
def aam:=@PySem.AutoSeq1.wpAny_loadPart'
def aan:=@List.foldl_cons
def aao:=@PyProof.Rows.callWith_type1
def aap:=@List.append_assoc
def aaq:=@List.getElem?_range
def aar:=@List.filterMap_cons
def aas:=@PySem.wpAny_ite_split
def aat:=@List.range_succ
def aau:=@Bool.or_eq_true
def aav:=@List.cons_append
def aaw:=@PySem.F.plainAttrs_list
def aax:=@PySem.wpAny_newObj_type
def aay:=@Ne.symm
def aaz:=@Nat.zero_le
def aaA:=@List.drop_zero
def aaB:=@PySem.W.mg_none_of
def aaC:=@PySem.builtinLookup_eq_fast
def aaD:=@List.dropLast_eq_take
def aaE:=@List.drop_eq_getElem_cons
def aaF:=@PyProof.Rows.slot_tuple_getitem
def aaG:=@PySem.sizeLine_eq
def aaH:=@if_false
def aaI:=@List.mem_append_left
def aaJ:=@decide_eq_true_eq
def aaK:=@Bool.not_eq_true'
def aaL:=@List.lookup_cons
def aaM:=@PySem.wpAny_field
def aaN:=@List.drop_eq_nil_of_le
def aaO:=@of_decide_eq_false
def aaP:=@Bool.false_ne_true
def aaQ:=@PySem.wpAny_passesOwn
def aaR:=@List.length_nil
def aaS:=@List.eq_nil_or_concat
def aaT:=@List.concat_eq_append
def aaU:=@PySem.Heap.get?_update_self
def aaV:=@List.flatten_cons
def aaW:=@PySem.wpAny_mono
def aaX:=@PySem.wpAny_of_eq
def aaY:=@PySem.wpAny_call_entry
def aaZ:=@List.length_take
def aa0:=@PySem.mem_of_lookup
def aa1:=@Option.bind_eq_bind
def aa2:=@List.drop_succ_cons
def aa3:=@PySem.wpAny_callSpecial?_slot
def aa4:=@PySem.call_meets
def aa5:=@PySem.typeLookup_type
def aa6:=@PySem.wpAny_Call_Name_kw
def aa7:=@PySem.Heap.get?_update_other
def aa8:=@Nat.add_comm
def aa9:=@PySem.isSubtype_type
def aba:=@Nat.lt_succ_self
def abb:=@List.length_drop
def abc:=@List.filter_cons
def abd:=@Array.length_toList
def abe:=@PySem.wpAny_specialOf
def abf:=@Nat.min_eq_left
def abg:=@Option.isSome_some
def abh:=@PySem.Obj.data_mapFields
def abi:=@Nat.lt_of_le_of_lt
def abj:=@Int.emod_lt_of_pos
def abk:=@PySem.F.type_list_append
def abl:=@PySem.F.slot_list_append
def abm:=@PySem.F.args_tuple_mul_2
def abn:=@PySem.F.args_tuple_add_2
def abo:=@Nat.mul_le_mul
def abp:=@List.drop_drop
def abq:=@PySem.F.entry_tuple_mul
def abr:=@PySem.F.entry_tuple_add
def abt:=@Option.some.injEq
def abu:=@List.foldl_append
def abv:=@List.ext_getElem?
def abw:=@Int.toNat_natCast
def abx:=@PySem.F.slot_tuple_mul
def aby:=@PySem.F.slot_tuple_add
def abz:=@List.range_succ_eq_map
def abA:=@Nat.add_assoc
def abB:=@List.getElem_inj
def abC:=@PyProof.Rows.len_str
def abD:=@List.map_map
def abE:=@List.nodup_cons
def abF:=@Int.emod_nonneg
def abG:=@List.take_append_of_le_length
def abH:=@PySem.W.plainGet_of
def abI:=@PySem.Heap.SameBut.update
def abJ:=@PySem.W.callWith_K
def abK:=@List.filter_append
def abL:=@PySem.wpAny_attempt
def abM:=@PySem.W.mg_of
def abN:=@PySem.Calls.Name_function_global
def abO:=@PySem.wpAny_truthy_bool
def abP:=@PySem.typeIs_int
def abQ:=@PySem.wpAny_binaryOp_repeat_ref
def abR:=@List.getElem?_eq_none_iff
def abS:=@Array.getElem?_eq_getElem
def abT:=@PySem.wpAny_typeOf
def abU:=@PySem.codeAny_mono
def abV:=@Nat.sub_self
def abW:=@List.map_nil
def abX:=@PySem.wpAny_isInstance
def abY:=@PySem.noFill_tuple_add
def abZ:=@Nat.min_eq_right
def ab0:=@List.drop_length
def ab1:=@List.append_inj'
def ab2:=@PySem.AutoSeq1.idx_int
def ab3:=@List.take_append_getElem
def ab4:=@decide_eq_false_iff_not
def ab5:=@List.getElem?_replicate
def ab6:=@PySem.wpAny_updateSeq
def ab7:=@PySem.wpAny_execs_nil
def ab8:=@List.of_mem_zip
def ab9:=@List.nil_append
def acd:=@List.head?_drop
def ace:=@PySem.W.cellsFrom_some
def acf:=@PyProof.noPylong_small
def acg:=@PySem.wpAny_setField
def ach:=@List.tail_drop
def aci:=@PySem.Heap.size_push
def acj:=@PySem.W.methodCall_KW
def ack:=@PySem.F.type_list_pop
def acm:=@PySem.F.slot_list_pop
def acn:=@PySem.F.slot_int_rmul
def aco:=@List.take_append_drop
def acp:=@List.singleton_append
def acq:=@List.length_replicate
def acr:=@PySem.wpAny_rule
def acs:=@List.mem_of_mem_take
def acu:=@List.getLast?_append
def acv:=@List.getElem?_of_mem
def acw:=@List.getElem?_modify
def acy:=@List.mem_cons
def acz:=@Nat.sub_lt_sub_left
def acA:=@List.map_congr_left
def acB:=@List.length_reverse
def acC:=@List.flatMap_append
def acD:=@Nat.ne_of_gt
def acE:=@Nat.le_of_lt
def acF:=@Int.zero_add
def acG:=@List.filterMap_nil
def acH:=@Nat.le_succ
theorem zb{a b:Bool}{p:Prop}(h:a=b)(q:a≠b:=by decide):p:=absurd h q
namespace L2
open PySem PySem.Spec PyProof.Rows
abbrev Key:=Sum Int Str
noncomputable def Fz:Key->Value->Bool
 |.inl k,v=>Value.isInt k v
 |.inr x,v=>Value.isStrOf x v
noncomputable def T5(w:World):Key->Int
 |.inl k=>hashInt k
 |.inr x=>hashStr w x
def dO:∀{k:Key}{v:Value},Fz k v=true->(∃i t,k=Sum.inl i/\v=Value.int i t)\/(∃x t,k=Sum.inr x/\v=Value.str x t)
 |.inl i,v,h=>by
  obtain⟨t,e⟩:=Value.isInt_shape (k:=i) (v:=v) h;exact .inl ⟨i,t,rfl,e⟩
 |.inr x,v,h=>by
  obtain⟨t,e⟩:=Value.isStrOf_shape (x:=x) (v:=v) h;exact .inr ⟨x,t,rfl,e⟩
def Ky(a b:Int):decide ((Sum.inl a:Key)=Sum.inl b)=(a==b):=by
 by_cases e:a=b
 .subst e;simp
 .have h:¬ (Sum.inl a:Key)=Sum.inl b:=λq=>e (Sum.inl.inj q);rw[Z6 h];exact(beq_eq_false_iff_ne.mpr e).symm
def Kz(a b:Str):decide ((Sum.inr a:Key)=Sum.inr b)=decide (a=b):=by
 by_cases e:a=b
 .subst e;simp
 .have h:¬ (Sum.inr a:Key)=Sum.inr b:=λq=>e (Sum.inr.inj q);rw[Z6 h,Z6 e]
def KA(a:Int)(b:Str):decide ((Sum.inl a:Key)=Sum.inr b)=false:=Z6 (λq=>nomatch q)
def KC(a:Str)(b:Int):decide ((Sum.inr a:Key)=Sum.inl b)=false:=Z6 (λq=>nomatch q)
noncomputable def sD(prog:Program)(w:World):PySem.KeyKind prog w Key where
 is:=Fz
 hash:=T5 w
 inj:=λv a b g f=>by
  rcases dO g with ⟨i,t,rfl,rfl⟩|⟨x,t,rfl,rfl⟩
  .rcases dO f with ⟨j,u,rfl,e⟩|⟨y,u,rfl,e⟩
   .injection e with c _;rw[c]
   .exact nomatch e
  .rcases dO f with ⟨j,u,rfl,e⟩|⟨y,u,rfl,e⟩
   .exact nomatch e
   .injection e with c _;rw[c]
 byValue:=λk v h=>by
  rcases dO h with ⟨i,t,rfl,rfl⟩|⟨x,t,rfl,rfl⟩<;>rfl
 pyHash:=λd h=>by
  rcases dO d with ⟨i,t,rfl,rfl⟩|⟨x,t,rfl,rfl⟩
  .exact wpAny_pyHash_int h
  .exact wpAny_pyHash_str h
 eqBool:=λl d h=>by
  rcases dO l with ⟨i,t,rfl,rfl⟩|⟨x,t,rfl,rfl⟩
  .rcases dO d with ⟨j,u,rfl,rfl⟩|⟨y,u,rfl,rfl⟩
   .rw[Ky]at h;exact wpAny_eqBool_int h
   .rw[KA]at h;exact SeqAt.EqAt.int_str i t y u _ _ _ _ h
  .rcases dO d with ⟨j,u,rfl,rfl⟩|⟨y,u,rfl,rfl⟩
   .rw[KC]at h;exact SeqAt.EqAt.str_int x t j u _ _ _ _ h
   .rw[Kz]at h;exact wpAny_eqBool_str h
 «strs»:=λk x t v h=>by
  rcases dO h with ⟨i,u,rfl,e⟩|⟨y,u,rfl,e⟩
  .exact nomatch e
  .injection e with c _
   subst c;cases v<;>rfl
inductive V where
 |aV|bl (b:Bool)|int (i:Int)|str (x:Str)|yc (b:Array UInt8)|FA (b:UInt64)|ref (a:Addr)|ty (n:String)
 deriving DecidableEq
def RelV:V->Value->Prop
 |.aV,u=>u=Value.none
 |.bl b,u=>u=Value.bool b
 |.int i,u=>∃t,u=Value.int i t
 |.str x,u=>∃t,u=Value.str x t
 |.yc b,u=>∃t,u=Value.bytes b t
 |.FA b,u=>∃t,u=Value.float b t
 |.ref a,u=>u=Value.ref a
 |.ty n,u=>u=Value.type n
abbrev Vals:List V->List Value->Prop:=Paired RelV
theorem Vals.length{xs:List V}{us:List Value}(r:Vals xs us):xs.length=us.length:=Paired.length r
theorem Vals.get:∀{xs:List V}{us:List Value}{i:Nat}{x:V},Vals xs us->xs[i]?=some x->∃u,us[i]?=some u/\RelV x u
 |_,_,_,_,.nil,e=>by simp at e
 |_,_,0,_,.cons r _,e=>by simp at e;subst e;exact⟨_,rfl,r⟩
 |_,_,i+1,x,.cons _ t,e=>by
  obtain⟨u,a,b⟩:=Vals.get (i:=i) (x:=x) t (by simpa using e);exact⟨u,by simpa using a,b⟩
theorem Vals.append:∀{xs ys:List V}{us ws:List Value},Vals xs us->Vals ys ws->Vals (xs++ys) (us++ws)
 |_,_,_,_,.nil,s=>s
 |_,_,_,_,.cons r t,s=>.cons r (Vals.append t s)
theorem Vals.take:∀{xs:List V}{us:List Value}(n:Nat),Vals xs us->Vals (xs.take n) (us.take n)
 |_,_,0,_=>.nil
 |_,_,_+1,.nil=>.nil
 |_,_,n+1,.cons r t=>.cons r (Vals.take n t)
theorem Vals.drop:∀{xs:List V}{us:List Value}(n:Nat),Vals xs us->Vals (xs.drop n) (us.drop n)
 |_,_,0,r=>r
 |_,_,_+1,.nil=>.nil
 |_,_,n+1,.cons _ t=>Vals.drop n t
def lV:Option V->Option Value->Prop
 |some v,some u=>RelV v u
 |none,none=>True
 |_,_=>False
def KV{κ:Type}:List (κ×V)->List (κ×Value)->Prop:=Paired λ(p:κ×V) (q:κ×Value)=>p.1=q.1/\RelV p.2 q.2
noncomputable def kV:Key->V
 |.inl i=>.int i
 |.inr x=>.str x
inductive HO where
 |lst (xs:List V)
 |tup (xs:List V)
 |dK (kvs:List (Key×V))|dT (kvs:List (List Key×V))
 |set (S:Int->Bool) (n:Nat)
 |ins (C dx:Addr) (fs:List (Str×V))
 |own (x:Addr)
 |xd (fs:List (Str×V))
 |met (f x:Addr)
 |fh (lo hi:Int)
 |bT (o:Obj) (u:HO)
 |u9 (ps:Array Value)
 |ext (φ:Heap->Prop)
abbrev Hp:=Addr->Option HO
noncomputable def upd(H:Hp)(a:Addr)(o:HO):Hp:=λb=>if b=a then some o else H b
def bz{H:Hp}{a:Addr}{o:HO}:upd H a o a=some o:=by unfold upd;rw[xC rfl]
def aC{H:Hp}{a b:Addr}{o:HO}(h:b≠a):upd H a o b=H b:=by unfold upd;rw[ZS h]
def jP{H:Hp}{a b:Addr}{o u:HO}(h:H a=some o)(h':H b=some u)(d:o≠u):a≠b:=by
 intro e;subst e;rw[h]at h';exact d (Vb h')
def bA{H:Hp}{a b:Addr}{o:HO}(h:H a=some o)(h':H b=none):a≠b:=by
 intro e;subst e;rw[h]at h';cases h'
section
variable(P:Program)(w:World)
def fO(H:Hp)(h:Heap)(a:Addr):HO->Prop
 |.lst c=>c.length<=sizeLine/\∃(its:List Value) (n:Nat),Vals c its/\h.get? a=some { cls:=.type "list",data:=.seq its.toArray n }
 |.tup c=>c.length<=sizeLine/\∃its:List Value,Vals c its/\IsTup h a its.toArray
 |.dK b=>b.length<=sizeLine/\(a==sysModules)=false/\∃vs,KV b vs/\h.DictOf (sD P w) a vs
 |.dT b=>b.length<=sizeLine/\(a==sysModules)=false/\∃c:List (List Key×Addr×Value),
   Paired (λ(p:List Key×V) (q:List Key×Addr×Value)=>p.1=q.1/\H q.2.1=some (.tup (p.1.map kV))/\RelV p.2 q.2.2) b c/\
   ∃o es ep,h.get? a=some o/\o.ExactDict/\o.data=.dict es ep/\es.toList=c.map (entryOfKey (tupleKind (sD P w)))/\(c.map (·.1)).Nodup
 |.set S n=>h.SetOf (intKind P w) a S n
 |.ins C d fs=>H d=some (.own a)/\fs.length<=1000/\d≠a/\h.get? a=some (PySem.W.instObj C d)/\
   ∃mA,h.Ns1 d mA/\(∀f,lV (fs.lookup f) (mA f))/\PySem.Within mA (fs.map (·.1))
 |.own _=>∃o,h.get? a=some o
 |.xd fs=>∃mA,h.Ns1 a mA/\∀f,lV (fs.lookup f) (mA f)
 |.fh e g=>∃t u v,h.get? a=some { cls:=.type "range",data:=.fields #[.int e t,.int g u,.int 1 v]}
 |.bT o u=>h.get? a=some o/\fO H h a u
 |.u9 ps=>h.get? a=some { cls:=.none,data:=.fields ps }
 |.met f x=>h.get? a=some (PySem.W.methodObj (.ref f) (.ref x))
 |.ext φ=>φ h/\(∃o,h.get? a=some o)/\∀h1 h2:Heap,φ h1->(∀o,h1.get? a=some o->h2.get? a=some o)->φ h2
def gc(H:Hp)(h:Heap):Prop:=∀a o,H a=some o->fO P w H h a o
end
section
variable{P:Program}{w:World}{H H':Hp}{h h':Heap}{a:Addr}{o:HO}
theorem fO.lt(x:fO P w H h a o):a<h.objs.size:=by
 cases o with
 |lst c=>obtain⟨_,_,_,_,e⟩:=x;exact ZW e
 |tup c=>obtain⟨_,_,_,p⟩:=x;exact p.lt
 |dK b=>obtain⟨_,_,_,_,o,_,_,e,_⟩:=x;exact ZW e
 |dT b=>obtain⟨_,_,_,_,o,_,_,e,_⟩:=x;exact ZW e
 |set S n=>obtain⟨o,_,_,_,e,_⟩:=x;exact ZW e
 |ins C d fs=>obtain⟨_,_,_,e,_⟩:=x;exact ZW e
 |own y=>obtain⟨_,e⟩:=x;exact ZW e
 |xd fs=>obtain⟨_,⟨_,_,_,e,_⟩,_⟩:=x;exact ZW e
 |fh g i=>obtain⟨_,_,_,e⟩:=x;exact ZW e
 |bT j u=>obtain⟨e,_⟩:=x;exact ZW e
 |u9 ps=>exact ZW (show h.get? a=some _ from x)
 |met f y=>exact ZW (show h.get? a=some _ from x)
 |ext φ=>obtain⟨_,⟨_,e⟩,_⟩:=x;exact ZW e
theorem Paired.KD{α β:Type}{F G:α->β->Prop}:∀{l₁:List α}{l₂:List β},Paired F l₁ l₂->(∀a b,F a b->G a b)->Paired G l₁ l₂
 |_,_,.nil,_=>.nil
 |_,_,.cons r t,f=>.cons (f _ _ r) (Paired.KD t f)
def fO.stay(x:fO P w H h a o)(k:∀b u,(b=a\/H b=some (.own a))->h.get? b=some u->h'.get? b=some u)
  (ho:∀b,H b=some (.own a)->H' b=some (.own a)) (ht:∀b xs,H b=some (.tup xs)->H' b=some (.tup xs)):fO P w H' h' a o:=by
 induction o with
 |lst xs=>obtain⟨z,l,n,r,e⟩:=x;exact⟨z,l,n,r,k _ _ (.inl rfl) e⟩
 |tup xs=>obtain⟨z,l,r,g,e,c⟩:=x;exact⟨z,l,r,g,k _ _ (.inl rfl) e,c⟩
 |dK A=>obtain⟨z,y,I,r,g,i,j,e,c⟩:=x;exact⟨z,y,I,r,g,i,j,k _ _ (.inl rfl) e,c⟩
 |dT A=>
  obtain⟨z,y,xs,r,g,i,j,e,c⟩:=x;exact⟨z,y,xs,Paired.KD r λp q z=>⟨z.1,ht _ _ z.2.1,z.2.2⟩,g,i,j,k _ _ (.inl rfl) e,c⟩
 |set S n=>obtain⟨g,i,j,t,e,c⟩:=x;exact⟨g,i,j,t,k _ _ (.inl rfl) e,c⟩
 |ins C M fs=>
  obtain⟨d,z,J,e,B,⟨F,i,j,K,c⟩,r⟩:=x;exact⟨ho _ d,z,J,k _ _ (.inl rfl) e,B,⟨F,i,j,k _ _ (.inr d) K,c⟩,r⟩
 |own y=>obtain⟨g,e⟩:=x;exact⟨g,k _ _ (.inl rfl) e⟩
 |xd fs=>obtain⟨B,⟨F,i,j,e,c⟩,r⟩:=x;exact⟨B,⟨F,i,j,k _ _ (.inl rfl) e,c⟩,r⟩
 |fh N Q=>obtain⟨t,u,v,e⟩:=x;exact⟨t,u,v,k _ _ (.inl rfl) e⟩
 |bT g u L=>obtain⟨e,q⟩:=x;exact⟨k _ _ (.inl rfl) e,L q⟩
 |u9 ps=>
  have e:h.get? a=some { cls:=.none,data:=.fields ps }:=x;show h'.get? a=some { cls:=.none,data:=.fields ps };exact k a _ (.inl rfl) e
 |met f y=>
  have e:h.get? a=some (PySem.W.methodObj (.ref f) (.ref y)):=x;show h'.get? a=some (PySem.W.methodObj (.ref f) (.ref y));exact k a _ (.inl rfl) e
 |ext φ=>obtain⟨p,⟨o,e⟩,G⟩:=x;exact⟨G _ _ p λo q=>k _ _ (.inl rfl) q,⟨o,k _ _ (.inl rfl) e⟩,G⟩
theorem gc.lt(x:gc P w H h)(e:H a=some o):a<h.objs.size:=(x a o e).lt
def gc.fresh(x:gc P w H h)(e:h.objs.size<=a):H a=none:=by
 cases q:H a with
 |none=>rfl
 |some u=>exact absurd (ZN (x.lt q) e) (aah _)
def gc.kept(x:gc P w H h)(k:∀b u,h.get? b=some u->h'.get? b=some u):gc P w H h':=λa o e=>
 (x a o e).stay (λb u _ q=>k b u q) (λ_ q=>q) λ_ _ q=>q
def gc.laid(x:gc P w H h)(k:∀b u,h.get? b=some u->h'.get? b=some u)(hp:h.objs.size<=a)(new:fO P w (upd H a o) h' a o):gc P w (upd H a o) h':=λb u e=>by
 have d:=x.fresh hp;by_cases f:b=a
 .subst f;rw[bz]at e;cases e;exact new
 .rw[aC f]at e;exact(x b u e).stay (λc v _ q=>k c v q) (λc q=>by rw[aC (bA q d)];exact q) λc g q=>by rw[aC (bA q d)];exact q
end
def Rd(H:Hp)(a:Addr)(u:HO):Prop:=H a=some u\/∃o,H a=some (.bT o u)
def Rd.ok{P:Program}{w:World}{H:Hp}{h:Heap}{a:Addr}{u:HO}(r:Rd H a u)(x:gc P w H h):fO P w H h a u:=by
 rcases r with r|⟨o,r⟩
 .exact x a u r
 .obtain⟨_,q⟩:=x a _ r;exact q
def FD:Option HO->Prop
 |some (.lst _)=>True
 |some (.dK _)=>True
 |some (.dT _)=>True
 |some (.set _ _)=>True
 |some (.ins _ _ _)=>True
 |some (.ext _)=>True
 |_=>False
section
variable{P:Program}{w:World}{H:Hp}{h h':Heap}{x e:Addr}{o':HO}
def gc.write(ok:gc P w H h)(mu:FD (H x))(he:e=x\/H e=some (.own x))(k:∀b u,b≠e->h.get? b=some u->h'.get? b=some u)(yd:∃u,h'.get? e=some u)
  (new:fO P w (upd H x o') h' x o'):gc P w (upd H x o') h':=λb u q=>by
 have KG:∀c y,H c=some (.own y)->c≠x:=λc y r z=>by subst z;rw[r]at mu;exact mu
 have T6:∀c a,H c=some (.tup a)->c≠x:=λc a r z=>by subst z;rw[r]at mu;exact mu
 by_cases d:b=x
 .subst d;rw[bz]at q;cases q;exact new
 .rw[aC d]at q;by_cases f:b=e
  .have i:H b=some (.own x):=by
    rcases he with z|z
    .exact absurd (f.trans z) d
    .rw[f];exact z
   rw[q]at i;cases i;obtain⟨v,j⟩:=yd;exact⟨v,by rw[f];exact j⟩
  .refine(ok b u q).stay (λc v g r=>k c v ?_ r) (λc r=>by rw[aC (KG c b r)];exact r) λc a r=>by rw[aC (T6 c a r)];exact r
   rcases g with rfl|g
   .exact f
   .rintro rfl;rcases he with z|z
    .exact KG c b g z
    .rw[g]at z;cases z;exact d rfl
end
structure Un(fs ex:List Addr)(H H':Hp)(h h':Heap):Prop where
 keep:∀b o,h.get? b=some o->H b=none->b∉fs->b∉ex->h'.get? b=some o
 slot:∀b o,h.get? b=some o->H b=none->b∈fs->b∉ex->∃sl,h'.get? b=some { o with slots:=sl }
 free:∀b o,h.get? b=some o->H b=none->b∉ex->H' b=none
 there:∀b o,h.get? b=some o->b∉ex->∃o',h'.get? b=some o'
 tups:∀b xs,H b=some (.tup xs)->H' b=some (.tup xs)
 m5:∀b o u,H b=some (.bT o u)->H' b=some (.bT o u)
 nT:∀b ps,H b=some (.u9 ps)->∃more,H' b=some (.u9 (ps++more))
section
variable{fs ex:List Addr}{H H1:Hp}{h h1 h':Heap}{a x e:Addr}{o:HO}
def Un.any(u:Un fs ex H H1 h h1){b:Addr}{ob:Obj}(q:h.get? b=some ob)(n:H b=none)(hx:b∉ex):∃sl,h1.get? b=some { ob with slots:=sl }:=by
 by_cases c:b∈fs
 .exact u.slot b ob q n c hx
 .exact⟨ob.slots,u.keep b ob q n c hx⟩
def Un.kept(k:∀b u,h.get? b=some u->h'.get? b=some u):Un fs ex H H h h':=
 ⟨λb c q _ _ _=>k b c q,λb c q _ _ _=>⟨c.slots,k b c q⟩,λ_ _ _ n _=>n,λb c q _=>⟨c,k b c q⟩,λ_ _ q=>q,λ_ _ _ q=>q,λ_ ps q=>⟨#[],by rw[q];simp⟩⟩
def Un.refl:Un fs ex H H h h:=Un.kept λ_ _ q=>q
def Un.laid(k:∀b u,h.get? b=some u->h'.get? b=some u)(hp:h.objs.size<=a)(hn:H a=none):Un fs ex H (upd H a o) h h' where
 keep:=λb u q _ _ _=>k b u q
 slot:=λb u q _ _ _=>⟨u.slots,k b u q⟩
 free:=λb u q n _=>by rw[aC (aad (ZN (ZW q) hp))];exact n
 there:=λb u q _=>⟨u,k b u q⟩
 tups:=λb c q=>by rw[aC (bA q hn)];exact q
 m5:=λb u c q=>by rw[aC (bA q hn)];exact q
 nT:=λb ps q=>⟨#[],by rw[aC (bA q hn),q];simp⟩
def Un.write(mu:FD (H x))(he:e=x\/H e=some (.own x))(k:∀b u,b≠e->h.get? b=some u->h'.get? b=some u)(yd:∃u,h'.get? e=some u):Un fs ex H (upd H x o) h h':=by
 have d:∀b,H b=none->b≠x:=λb n z=>by subst z;rw[n]at mu;exact mu
 have f:∀b,H b=none->b≠e:=λb n z=>by
  subst z;rcases he with r|r
  .exact d b n r
  .rw[n]at r;cases r
 have c:∀b u,H b=some u->¬ FD (some u)->b≠x:=λb u q i z=>by subst z;rw[q]at mu;exact i mu
 refine⟨λb u q n _ _=>k b u (f b n) q,λb u q n _ _=>⟨u.slots,k b u (f b n) q⟩,λb u q n _=>by rw[aC (d b n)];exact n,λb u q _=>?_,
  λb j q=>by rw[aC (c b _ q λz=>z)];exact q,λb u j q=>by rw[aC (c b _ q λz=>z)];exact q,λb ps q=>⟨#[],by rw[aC (c b _ q λz=>z),q];simp⟩⟩
 by_cases g:b=e
 .subst g;exact yd
 .exact⟨u,k b u g q⟩
end
noncomputable def FE(h:Heap)(H:Hp):List Addr:=(List.range h.objs.size).filter λa=>(H a).isSome
noncomputable def m6(h:Heap)(H:Hp):Heap:=PySem.W.hideAll h (FE h H)
def Bh(h:Heap)(H:Hp):(m6 h H).objs.size=h.objs.size:=PySem.W.hideAll_size _ _
def DH{h:Heap}{H:Hp}{b:Addr}{o:Obj}(e:h.get? b=some o)(n:H b=none):(m6 h H).get? b=some o:=
 PySem.W.hideAll_get _ e λa=>by
  have q:(H b).isSome=true:=(List.mem_filter.mp a).2;rw[n]at q;simp at q
def HX{h:Heap}{H:Hp}{b:Addr}{o:Obj}(e:(m6 h H).get? b=some o):h.get? b=some o/\H b=none:=by
 have a:h.get? b=some o:=PySem.W.of_hideAll (FE h H) e;refine⟨a,?_⟩;cases q:H b with
 |none=>rfl
 |some x=>
  have c:b∈FE h H:=List.mem_filter.mpr ⟨List.mem_range.mpr (ZW a),by simp[q]⟩;have z:(m6 h H).get? b=none:=PySem.W.hideAll_none (FE h H) c;rw[z]at e;cases e
noncomputable def HY(g h:Heap)(L:Addr):List (Addr×Obj):=(List.range h.objs.size).filterMap λa=>if a=L\/(g.get? a).isSome=true then none else (h.get? a).map λo=>(a,o)
noncomputable def rest(g h:Heap)(L d:Addr):List (Addr×Obj):=(HY g h L).filter λp=>decide (p.1≠d)
structure Mod(K:PySem.W.Frag)(mg:Str->Option Value)(base:Heap):Prop where
 ye:K.In base
 glob:base.Ns mainGlobals mg
 blt:∃mb,base.Ns builtinsNs mb/\∀x:Str,x≠"__name__" ->mb x=bootBuiltins x
 nolimit:base.NoLimit
structure Cx where
 prog:Program
 w:World
 K:PySem.W.Frag
 mg:Str->Option Value
 base:Heap
 A:Around
 N:List Str
 s₀:Shared
 H₀:Hp
 env:Env
 outer:List Env
 stack:List Env
 ex:List Addr
 fn:Str->Bool
 calm:Bool
 pn:List (Addr×Obj)
 xe:Value->Shared->Prop
noncomputable def frs(l:List Env):List Addr:=l.filterMap (·.frame)
noncomputable abbrev Cx.fs(X:Cx):List Addr:=frs X.outer
def Bj(sc:Scope)(x:Str):Prop:=sc.names.lookup x=some .local\/sc.names.lookup x=some .cell\/sc.names.lookup x=some .free
def Loc(sc:Scope)(x:Str):Prop:=sc.names.lookup x=some .local\/sc.names.lookup x=some .cell
def Look(env:Env)(h:Heap)(m:Str->Option Value)(x:Str)(u:Value):Prop:=
 (env.kindOf x=some .local/\m x=some u)\/((env.kindOf x=some .cell\/env.kindOf x=some .free)/\∃c,env.cells.lookup x=some c/\h.IsCell c (some u))
structure Cx.Ok(X:Cx):Prop where
 mod:Mod X.K X.mg X.base
 kind:X.env.scope.kind=.function
 glob:X.env.globals=mainGlobals
 blt:X.env.builtins=builtinsNs
 above:X.s₀.heap.objs.size<=X.env.locals
 inj:∀x y c,X.env.cells.lookup x=some c->X.env.cells.lookup y=some c->x=y
 has:∀x,(X.env.kindOf x=some .cell\/X.env.kindOf x=some .free)->∃c,X.env.cells.lookup x=some c
 yf:∀x c,X.fn x=true->X.env.cells.lookup x=some c->X.s₀.heap.objs.size<=c
 hd:X.calm=true->X.A.handled=none
 frames:X.A.frames=some X.stack
 stk:X.stack=X.outer\/(X.stack=X.env :: X.outer/\X.env.frame=some X.env.locals)
 FF:∀b∈X.ex,b≠X.env.locals/\∀x c,X.env.cells.lookup x=some c->c≠b
 bs:∀b o,X.base.get? b=some o->X.s₀.heap.get? b=some o/\X.H₀ b=none
 qK:X.base.objs.size<=X.s₀.heap.objs.size
 sE:∀b o,X.base.get? b=some o->b∉X.ex
 sF:∀b∈X.ex,b∉X.fs
 jc:X.s₀.heap.FunFrames X.base X.outer
 tV:∀b∈X.fs,X.H₀ b=none
structure Inv(X:Cx)(pins:List (Addr×Obj))(σ:List (Option V))(H:Hp)(s:Shared):Prop where
 ok:X.Ok
 os:s.os=X.s₀.os
 bare:AllBare s.gens
 base:Un X.fs X.ex X.H₀ H X.s₀.heap s.heap
 loc:∃m,s.heap.Ns X.env.locals m/\∀(i:Nat) (x:Str) (v:V),X.N[i]?=some x->σ[i]?=some (some v)->Bj X.env.scope x->∃u,RelV v u/\Look X.env s.heap m x u
 cell:∀x c,X.env.cells.lookup x=some c->∃v,s.heap.IsCell c v
 free:H X.env.locals=none
 jw:∀x c,X.env.cells.lookup x=some c->H c=none
 pin:∀p∈X.pn++pins,s.heap.get? p.1=some p.2/\H p.1=none/\p.1≠X.env.locals/\p.1∉X.fs/\∀v,p.2.data≠.cell v
 hok:gc X.prog X.w H s.heap
 len:σ.length=X.N.length
section
variable{X:Cx}{pins:List (Addr×Obj)}{σ:List (Option V)}{H H':Hp}{s:Shared}{h':Heap}
def Cx.Ok.T7(ok:X.Ok){b:Addr}{o:Obj}(e:X.base.get? b=some o):b∉X.fs:=λa=>by
 have:=(ok.jc.mem a).1;rw[e]at this;cases this
theorem Inv.bs(I:Inv X pins σ H s):∀b o,X.base.get? b=some o->s.heap.get? b=some o/\H b=none:=λb o e=>
 ⟨I.base.keep b o (I.ok.bs b o e).1 (I.ok.bs b o e).2 (I.ok.T7 e) (I.ok.sE b o e),I.base.free b o (I.ok.bs b o e).1 (I.ok.bs b o e).2 (I.ok.sE b o e)⟩
def Inv.bk(I:Inv X pins σ H s):∀b o,X.base.get? b=some o->s.heap.get? b=some o:=λb o e=>(I.bs b o e).1
theorem Inv.mod(I:Inv X pins σ H s):Mod X.K X.mg X.base:=I.ok.mod
def Inv.kB(I:Inv X pins σ H s):X.K.In s.heap:=I.ok.mod.ye.keeps I.bk
theorem Inv.lt(I:Inv X pins σ H s):X.env.locals<s.heap.objs.size:=let ⟨_,hn,_⟩:=I.loc;hn.lt
def Inv.sz(I:Inv X pins σ H s):X.s₀.heap.objs.size<=s.heap.objs.size:=Z2 I.ok.above (acE I.lt)
def Inv.T8(I:Inv X pins σ H s){a:Addr}(h:s.heap.objs.size<=a):a∉X.fs:=λb=>by
 obtain⟨_,o,c,_⟩:=I.ok.jc.mem b;exact absurd (ZN (ZW c) (Z2 I.sz h)) (aah _)
def Inv.vc(I:Inv X pins σ H s):∀x c,X.env.cells.lookup x=some c->c≠X.env.locals:=λx c e z=>by
 obtain⟨v,o,d,f⟩:=I.cell x c e;obtain⟨m,⟨g,h,i,a,b,_⟩,_⟩:=I.loc;rw[z,a]at d;cases d;rw[b]at f;cases f
theorem Inv.jc(I:Inv X pins σ H s):s.heap.FunFrames X.base X.outer:=by
 have all:∀(l:List Env),(∀b∈frs l,b∈X.fs)->X.s₀.heap.FunFrames X.base l->s.heap.FunFrames X.base l:=by
  intro l;induction l with
  |nil=>intro _ _;trivial
  |cons g r h=>
   intro f i;obtain⟨j,⟨L,o,a,k,p,q⟩,x⟩:=i;have c:L∈X.fs:=f L (by unfold frs;rw[aar,a];exact aai);obtain⟨y,e⟩:=I.base.slot L o p (I.ok.tV L c) c λz=>I.ok.sF L z c;exact⟨j,⟨L,_,a,k,e,q⟩,h (λb d=>f b (by unfold frs;rw[aar,a];exact ZY _ d)) x⟩
 exact all X.outer (λ_ d=>d) I.ok.jc
theorem Inv.stack(I:Inv X pins σ H s):s.heap.FunFrames X.base X.stack:=by
 rcases I.ok.stk with e|⟨e,a⟩
 .rw[e];exact I.jc
 .rw[e];obtain⟨m,b,_⟩:=I.loc;refine .cons (by rw[I.ok.kind];decide) a b ?_ I.jc;exact Heap.get?_none_of_le (Z2 I.ok.qK I.ok.above)
def Inv.ve(I:Inv X pins σ H s):∀b∈frs X.stack,b∈X.env.locals :: X.fs:=λb a=>by
 rcases I.ok.stk with e|⟨e,c⟩
 .rw[e]at a;exact ZY _ a
 .rw[e]at a;unfold frs at a;rw[aar,c]at a;exact a
def Inv.yg(I:Inv X pins σ H s):∀b∈frs X.stack,H b=none:=λb a=>by
 rcases List.mem_cons.mp (I.ve b a)with e|a
 .rw[e];exact I.free
 .obtain⟨_,o,c,_⟩:=I.ok.jc.mem a;exact I.base.free b o c (I.ok.tV b a) λz=>I.ok.sF b z a
def Inv.step{g':Array GenState}{t':Nat}{d':Drawn}{ch:List Addr}(I:Inv X pins σ H s)
  (hch:∀b∈ch,(b∈X.ex\/X.s₀.heap.objs.size<=b)/\b≠X.env.locals/\(∀x c,X.env.cells.lookup x=some c->c≠b)/\∀p∈X.pn++pins,p.1≠b)
  (keep:∀b o,b≠X.env.locals->b∉X.fs->b∉ch->s.heap.get? b=some o->H b=none->h'.get? b=some o)
  (slot:∀b o,b≠X.env.locals->b∈X.fs->b∉ch->s.heap.get? b=some o->H b=none->∃sl,h'.get? b=some { o with slots:=sl }) (free:∀b o,b∉ch->s.heap.get? b=some o->H b=none->H' b=none)
  (there:∀b o,b∉ch->s.heap.get? b=some o->∃o',h'.get? b=some o')
  (tups:∀b xs,H b=some (.tup xs)->H' b=some (.tup xs)) (m5:∀b o u,H b=some (.bT o u)->H' b=some (.bT o u)) (nT:∀b ps,H b=some (.u9 ps)->∃more,H' b=some (.u9 (ps++more)))
  (ns:∀m,s.heap.Ns X.env.locals m->h'.Ns X.env.locals m) (hok:gc X.prog X.w H' h') (hg:AllBare g') :
  Inv X pins σ H' { s with heap:=h',gens:=g',drawn:=d',toks:=t' }:=by
 have RC:∀b o,X.s₀.heap.get? b=some o->b≠X.env.locals:=λb o e=>aad (ZN (ZW e) I.ok.above);have FG:∀b o,X.s₀.heap.get? b=some o->b∉X.ex->b∉ch:=λb o e a h=>by
  rcases(hch b h).1 with z|z
  .exact a z
  .exact absurd (ZN (ZW e) z) (aah _)
 have f:∀x c,X.env.cells.lookup x=some c->∀v,s.heap.IsCell c v->h'.IsCell c v:=λx c e v ⟨o,j,A⟩=>by
  have Bk:c∉ch:=λz=>(hch c z).2.2.1 x c e rfl;by_cases B:c∈X.fs
  .obtain⟨sl,q⟩:=slot c o (I.vc x c e) B Bk j (I.jw x c e);exact⟨_,q,A⟩
  .exact⟨o,keep c o (I.vc x c e) B Bk j (I.jw x c e),A⟩
 refine⟨I.ok,I.os,hg,⟨λb o e n h a=>?_,λb o e n h a=>?_,λb o e n a=>?_,λb o e a=>?_,λb xs e=>tups b xs (I.base.tups b xs e),λb o xs e=>m5 b o xs (I.base.m5 b o xs e),λb ps e=>?_⟩,?_,λx c e=>?_,?_,λx c e=>?_,λp C=>?_,hok,I.len⟩
 .exact keep b o (RC b o e) h (FG b o e a) (I.base.keep b o e n h a) (I.base.free b o e n a)
 .obtain⟨sl,g⟩:=I.base.slot b o e n h a;obtain⟨Vx,y⟩:=slot b _ (RC b o e) h (FG b o e a) g (I.base.free b o e n a);exact⟨Vx,y⟩
 .obtain⟨o',g⟩:=I.base.there b o e a;exact free b o' (FG b o e a) g (I.base.free b o e n a)
 .obtain⟨o',g⟩:=I.base.there b o e a;exact there b o' (FG b o e a) g
 .obtain⟨J,g⟩:=I.base.nT b ps e;obtain⟨K,y⟩:=nT b _ g;exact⟨J++K,by rw[y,Array.append_assoc]⟩
 .obtain⟨m,L,M⟩:=I.loc;refine⟨m,ns m L,λi x v g y N=>?_⟩;obtain⟨u,r,l⟩:=M i x v g y N;refine⟨u,r,?_⟩;rcases l with l|⟨k,c,e,z⟩
  .exact .inl l
  .exact .inr ⟨k,c,e,f x c e _ z⟩
 .obtain⟨v,z⟩:=I.cell x c e;exact⟨v,f x c e v z⟩
 .obtain⟨m,⟨o,_,_,j,_⟩,_⟩:=I.loc;exact free _ o (λz=>(hch _ z).2.1 rfl) j I.free
 .obtain⟨v,o,j,A⟩:=I.cell x c e;exact free c o (λz=>(hch c z).2.2.1 x c e rfl) j (I.jw x c e)
 .obtain⟨e,n,F,G,d⟩:=I.pin p C;have Bk:p.1∉ch:=λz=>(hch p.1 z).2.2.2 p C rfl;exact⟨keep p.1 p.2 F G Bk e n,free p.1 p.2 Bk e n,F,G,d⟩
def Inv.un{t':Nat}(I:Inv X pins σ H s)(u:Un X.fs [] H H' s.heap h')(hok:gc X.prog X.w H' h'):Inv X pins σ H' { s with heap:=h',toks:=t' }:=by
 obtain⟨m,⟨o,j,k,f,r⟩,_⟩:=id I.loc;obtain⟨l,g⟩:=u.any f I.free (by simp);exact I.step (g':=s.gens) (d':=s.drawn) (ch:=[]) (λ_ z=>nomatch z) (λb o _ c _ e n=>u.keep b o e n c (by simp)) (λb o _ c _ e n=>u.slot b o e n c (by simp)) (λb o _ e n=>u.free b o e n (by simp)) (λb o _ e=>u.there b o e (by simp)) u.tups u.m5 u.nT (λp h=>by
  obtain⟨q,d,KH,a,i⟩:=h;rw[f]at a;cases a;exact⟨_,d,KH,g,i⟩) hok I.bare
def Inv.call{g':Array GenState}{t':Nat}{d':Drawn}{ch:List Addr}(I:Inv X pins σ H s)(u:Un (frs X.stack) ch H H' s.heap h')(hok:gc X.prog X.w H' h')(hg:AllBare g')
  (hch:∀b∈ch,(b∈X.ex\/X.s₀.heap.objs.size<=b)/\b≠X.env.locals/\(∀x c,X.env.cells.lookup x=some c->c≠b)/\∀p∈X.pn++pins,p.1≠b) :
  Inv X pins σ H' { s with heap:=h',gens:=g',drawn:=d',toks:=t' }:=by
 obtain⟨m,⟨o,l,q,h,r⟩,_⟩:=id I.loc;obtain⟨y,f⟩:=u.any h I.free λz=>(hch _ z).2.1 rfl;exact I.step (ch:=ch) hch (λb o f i a e n=>u.keep b o e n (λz=>(List.mem_cons.mp (I.ve b z)).elim f i) a) (λb o _ _ a e n=>u.any e n a) (λb o a e n=>u.free b o e n a) (λb o a e=>u.there b o e a) u.tups u.m5 u.nT (λA j=>by
  obtain⟨B,g,KH,d,k⟩:=j;rw[h]at d;cases d;exact⟨_,g,KH,f,k⟩) hok hg
def Inv.turned{t':Nat}{it:Addr}(I:Inv X pins σ H s)(k:∀b o,b≠it->s.heap.get? b=some o->h'.get? b=some o)(hn:H it=none)(hL:it≠X.env.locals)
  (h1:it∈X.ex\/X.s₀.heap.objs.size<=it) (h2:∀x c,X.env.cells.lookup x=some c->c≠it) (h3:∀p∈X.pn++pins,p.1≠it):Inv X pins σ H { s with heap:=h',toks:=t' }:=by
 have RD:∀b u,H b=some u->b≠it:=λb u e z=>by rw[z,hn]at e;cases e
 refine I.step (g':=s.gens) (d':=s.drawn) (ch:=[it]) (λb d=>?_) (λb o _ _ a e _=>k b o (λz=>a (by simp[z])) e) (λb o _ _ a e _=>⟨o.slots,k b o (λz=>a (by simp[z])) e⟩) (λ_ _ _ _ n=>n)
  (λb o a e=>⟨o,k b o (λz=>a (by simp[z])) e⟩) (λ_ _ e=>e) (λ_ _ _ e=>e) (λb ps e=>⟨#[],by rw[e];simp⟩) (λm f=>?_) (λb u e=>?_) I.bare
 .have e:b=it:=by simpa using d
  subst e;exact⟨h1,hL,h2,h3⟩
 .obtain⟨o,g,h,i,r⟩:=f;exact⟨o,g,h,k _ o (aay hL) i,r⟩
 .refine(I.hok b u e).stay (λc v a q=>k c v ?_ q) (λ_ q=>q) λ_ _ q=>q;rcases a with z|z
  .rw[z];exact RD b u e
  .exact RD c _ z
def Inv.tok(I:Inv X pins σ H s)(t:Nat):Inv X pins σ H { s with toks:=t }:=I.un (h':=s.heap) (t':=t) Un.refl I.hok
theorem Inv.kept{t':Nat}(I:Inv X pins σ H s)(k:∀b u,s.heap.get? b=some u->h'.get? b=some u):Inv X pins σ H { s with heap:=h',toks:=t' }:=I.un (Un.kept k) (I.hok.kept k)
theorem Inv.laid{a:Addr}{o:HO}{t':Nat}(I:Inv X pins σ H s)(k:∀b u,s.heap.get? b=some u->h'.get? b=some u)(hp:s.heap.objs.size<=a)(new:fO X.prog X.w (upd H a o) h' a o) :
  Inv X pins σ (upd H a o) { s with heap:=h',toks:=t' }:=I.un (Un.laid k hp (I.hok.fresh hp)) (I.hok.laid k hp new)
theorem Inv.write{x e:Addr}{o:HO}{t':Nat}(I:Inv X pins σ H s)(mu:FD (H x))(he:e=x\/H e=some (.own x))(k:∀b u,b≠e->s.heap.get? b=some u->h'.get? b=some u)(yd:∃u,h'.get? e=some u)
  (new:fO X.prog X.w (upd H x o) h' x o):Inv X pins σ (upd H x o) { s with heap:=h',toks:=t' }:=I.un (Un.write mu he k yd) (I.hok.write mu he k yd new)
def Inv.yh{FH:List (Addr×Obj)}(I:Inv X pins σ H s)(h:∀p∈FH,s.heap.get? p.1=some p.2/\H p.1=none/\p.1≠X.env.locals/\p.1∉X.fs/\∀v,p.2.data≠.cell v):Inv X FH σ H s:=
 ⟨I.ok,I.os,I.bare,I.base,I.loc,I.cell,I.free,I.jw,λp a=>(List.mem_append.mp a).elim (λz=>I.pin p (aaI _ z)) (h p),I.hok,I.len⟩
def vf{N:List Str}(hN:N.Nodup){i j:Nat}{x:Str}(a:N[i]?=some x)(b:N[j]?=some x):i=j:=by
 obtain⟨e,c⟩:=List.getElem?_eq_some_iff.mp a;obtain⟨f,d⟩:=List.getElem?_eq_some_iff.mp b;exact(abB hN).mp (c.trans d.symm)
def Bm{M:Model}{A:Around}{E:Value->Shared->Prop}{i:Nat}{x:Str}{v:V}{u:Value}{Q:Unit->Shared->Prop}(I:Inv X pins σ H s)(hN:X.N.Nodup)(hi:X.N[i]?=some x)(hx:Loc X.env.scope x)(r:RelV v u)
  (h:∀s',Inv X pins (σ.set i (some v)) H s'->(∃a,Heap.SameBut a s.heap s'.heap/\(a=X.env.locals\/X.env.cells.lookup x=some a))->Q () s') (hf:X.fn x=true\/X.env.scope.names.lookup x=some .local:=by first|exact .inl rfl|exact .inr rfl|assumption):wpAny M A (storeName X.env x u) Q E s:=by
 obtain⟨m,hn,hl⟩:=id I.loc;have P:(X.env.scope.kind==.class || (X.env.scope.kind==.module&&X.env.locals != X.env.globals))=false:=by rw[I.ok.kind];rfl
 have KI:i<σ.length:=by rw[I.len];exact(List.getElem?_eq_some_iff.mp hi).1
 have vc:=I.vc;have g:∀{a:Addr} {h':Heap},(∃o,s.heap.get? a=some o/\H a=none)->Heap.SameBut a s.heap h'->gc X.prog X.w H h':=λ{a h'} ha f b ob e=>by
  obtain⟨_,_,C⟩:=ha;refine(I.hok b ob e).stay (λc w' B q=>(f.2 c ?_).trans q) (λ_ q=>q) λ_ _ q=>q;rintro rfl;rcases B with rfl|B
  .rw[C]at e;cases e
  .rw[C]at B;cases B
 rcases hx with G|G
 .refine wpAny_storeName_local G hn (λh' hn' f=>?_) P;obtain⟨oL,_,_,Vy,_⟩:=id hn;refine h _ ⟨I.ok,I.os,I.bare,⟨λb o e n J hx=>?_,λb o e n J hx=>?_,I.base.free,λb o e hx=>?_,I.base.tups,I.base.m5,I.base.nT⟩,⟨_,hn',λj y v' l F e3=>?_⟩,λy c e=>?_,I.free,I.jw,λp hp=>?_,g ⟨oL,Vy,I.free⟩ f,by simpa using I.len⟩ ⟨_,f,.inl rfl⟩
  .exact(f.2 b (aad (ZN (ZW e) I.ok.above))).trans (I.base.keep b o e n J hx)
  .obtain⟨sl,l⟩:=I.base.slot b o e n J hx;exact⟨sl,(f.2 b (aad (ZN (ZW e) I.ok.above))).trans l⟩
  .obtain⟨o',l⟩:=I.base.there b o e hx;exact⟨o',(f.2 b (aad (ZN (ZW e) I.ok.above))).trans l⟩
  .by_cases K:j=i
   .subst K;rw[hi]at l;cases l;rw[ZP KI]at F;cases F;exact⟨u,r,.inl ⟨G,by simp⟩⟩
   .rw[Kc (aay K)]at F;obtain⟨u',r',q⟩:=hl j y v' l F e3;refine⟨u',r',?_⟩;rcases q with ⟨k,e⟩|⟨k,c,e,z⟩
    .refine .inl ⟨k,?_⟩;have:y≠x:=λe=>K (vf hN l (e▸hi));simp[this,e]
    .exact .inr ⟨k,c,e,z.sameBut f (vc y c e)⟩
  .obtain⟨w',z⟩:=I.cell y c e;exact⟨w',z.sameBut f (vc y c e)⟩
  .obtain⟨e,n,ne,nf,d⟩:=I.pin p hp;exact⟨(f.2 p.1 ne).trans e,n,ne,nf,d⟩
 .have L:X.fn x=true:=by
   rcases hf with z|z
   .exact z
   .rw[z]at G;cases G
  obtain⟨c,B⟩:=I.ok.has x (.inl G);obtain⟨w',z⟩:=I.cell x c B;refine wpAny_storeName_cell I.ok.kind G B z (λh' W f=>?_);obtain⟨oc,Y,T9⟩:=id z;refine h { s with heap:=h' } ⟨I.ok,I.os,I.bare,⟨λb o e n J hx=>?_,λb o e n J hx=>?_,I.base.free,λb o e hx=>?_,I.base.tups,I.base.m5,I.base.nT⟩,⟨m,hn.sameBut f (aay (vc x c B)),λj y v' l F e3=>?_⟩,λy c' e=>?_,I.free,I.jw,λp hp=>?_,g ⟨oc,Y,I.jw x c B⟩ f,by simpa using I.len⟩ ⟨c,f,.inr B⟩
  .exact(f.2 b (aad (ZN (ZW e) (I.ok.yf x c L B)))).trans (I.base.keep b o e n J hx)
  .obtain⟨sl,l⟩:=I.base.slot b o e n J hx;exact⟨sl,(f.2 b (aad (ZN (ZW e) (I.ok.yf x c L B)))).trans l⟩
  .obtain⟨o',l⟩:=I.base.there b o e hx;exact⟨o',(f.2 b (aad (ZN (ZW e) (I.ok.yf x c L B)))).trans l⟩
  .by_cases K:j=i
   .subst K;rw[hi]at l;cases l;rw[ZP KI]at F;cases F;exact⟨u,r,.inr ⟨.inl G,c,B,W⟩⟩
   .rw[Kc (aay K)]at F;obtain⟨u',r',q⟩:=hl j y v' l F e3;refine⟨u',r',?_⟩;rcases q with q|⟨k,c',e,z'⟩
    .exact .inl q
    .refine .inr ⟨k,c',e,z'.sameBut f ?_⟩;rintro rfl;exact K (vf hN l (I.ok.inj _ _ _ e B▸hi))
  .by_cases Z:c'=c
   .subst Z;exact⟨_,W⟩
   .obtain⟨w2,z2⟩:=I.cell y c' e;exact⟨w2,z2.sameBut f Z⟩
  .obtain⟨e,n,ne,nf,d⟩:=I.pin p hp;refine⟨(f.2 p.1 ?_).trans e,n,ne,nf,d⟩;intro q;rw[q,Y]at e;have q':oc=p.2:=Vb e;exact d w' (by rw[<-q'];exact T9)
def vg{M:Model}{A:Around}{E:Value->Shared->Prop}{i:Nat}{x:Str}{v:V}{u:Value}{Q:Unit->Shared->Prop}(I:Inv X pins σ H s)(hN:X.N.Nodup)(hi:X.N[i]?=some x)(hx:Loc X.env.scope x)(r:RelV v u)
  (h:∀s',Inv X pins (σ.set i (some v)) H s'->Q () s') (hf:X.fn x=true\/X.env.scope.names.lookup x=some .local:=by first|exact .inl rfl|exact .inr rfl|assumption):wpAny M A (storeName X.env x u) Q E s:=
 Bm I hN hi hx r (λs' I' _=>h s' I') hf
def Inv.Qh{s':Shared}{ch:List Addr}(I:Inv X pins σ H s)(ho:s'.os=s.os)(u:Un (frs X.stack) ch H H' s.heap s'.heap)(hok:gc X.prog X.w H' s'.heap)(hg:AllBare s'.gens)
  (hch:∀b∈ch,(b∈X.ex\/X.s₀.heap.objs.size<=b)/\b≠X.env.locals/\(∀x c,X.env.cells.lookup x=some c->c≠b)/\∀p∈X.pn++pins,p.1≠b):Inv X pins σ H' s':=by
 obtain⟨h',g',d',t',a⟩:=s';have e:a=s.os:=ho;subst e;exact I.call (g':=g') (t':=t') (d':=d') u hok hg hch
end
abbrev XK:=Value->Option Addr->Hp->Prop
abbrev St:=List (Option V)
abbrev VK:=V->Hp->Prop
abbrev TE:=St->Hp->VK->Prop
abbrev TT:=St->Hp->(Bool->Hp->Prop)->Prop
abbrev TA:=St->Hp->(List V->Hp->Prop)->Prop
structure Ends where
 nx:St->Hp->Prop
 rt:VK
 bk:St->Hp->Prop:=λ_ _=>False
 ct:St->Hp->Prop:=λ_ _=>False
abbrev TS:=Ends->St->Hp->Prop
def EP(X:Cx)(pins:List (Addr×Obj))(σ:St)(Q:VK)(u:Value)(s':Shared):Prop:=∃v H',Inv X pins σ H' s'/\RelV v u/\Q v H'
def TP(X:Cx)(pins:List (Addr×Obj))(σ:St)(Q:Bool->Hp->Prop)(b:Bool)(s':Shared):Prop:=∃H',Inv X pins σ H' s'/\Q b H'
def AP(X:Cx)(pins:List (Addr×Obj))(σ:St)(Q:List V->Hp->Prop)(us:List Value)(s':Shared):Prop:=∃vs H',Inv X pins σ H' s'/\Vals vs us/\Q vs H'
def SP(X:Cx)(pins:List (Addr×Obj))(D:Ends)(f:Flow)(s':Shared):Prop:=
 match f with
 |.next=>∃σ' H',Inv X pins σ' H' s'/\D.nx σ' H'
 |.brk=>∃σ' H',Inv X pins σ' H' s'/\D.bk σ' H'
 |.cont=>∃σ' H',Inv X pins σ' H' s'/\D.ct σ' H'
 |.ret u=>∃v σ' H',Inv X pins σ' H' s'/\RelV v u/\D.rt v H'
def PE(X:Cx)(e:Expr)(t:TE):Prop:=
 ∀(pins:List (Addr×Obj)) (s:Shared) (σ:St) (H:Hp) (Q:VK),Inv X pins σ H s->t σ H Q->wpAny (model X.prog X.w) X.A (eval e X.env) (EP X pins σ Q) X.xe s
def PT(X:Cx)(e:Expr)(t:TT):Prop:=
 ∀(pins:List (Addr×Obj)) (s:Shared) (σ:St) (H:Hp) (Q:Bool->Hp->Prop),Inv X pins σ H s->t σ H Q->wpAny (model X.prog X.w) X.A (isTrue e X.env (eval e X.env)) (TP X pins σ Q) X.xe s
def PW(X:Cx)(e:Expr)(t:TT):Prop:=
 ∀(whole:Sem Value) (pins:List (Addr×Obj)) (s:Shared) (σ:St) (H:Hp) (Q:Bool->Hp->Prop),Inv X pins σ H s->t σ H Q->wpAny (model X.prog X.w) X.A (isTrue e X.env whole) (TP X pins σ Q) X.xe s
def PW.pt{X:Cx}{e:Expr}{t:TT}(h:PW X e t):PT X e t:=h _
def PA(X:Cx)(es:List Expr)(t:TA):Prop:=
 ∀(pos:Pos) (pins:List (Addr×Obj)) (s:Shared) (σ:St) (H:Hp) (Q:List V->Hp->Prop),Inv X pins σ H s->t σ H Q->wpAny (model X.prog X.w) X.A (spliced (backTo pos (starEach es X.env))) (AP X pins σ Q) X.xe s
def PS(X:Cx)(st:Stmt)(t:TS):Prop:=
 ∀(pins:List (Addr×Obj)) (s:Shared) (σ:St) (H:Hp) (D:Ends),Inv X pins σ H s->t D σ H->wpAny (model X.prog X.w) X.A (exec st X.env) (SP X pins D) X.xe s
def gf(X:Cx)(st:List Stmt)(t:TS):Prop:=
 ∀(pins:List (Addr×Obj)) (s:Shared) (σ:St) (H:Hp) (D:Ends),Inv X pins σ H s->t D σ H->wpAny (model X.prog X.w) X.A (execs st X.env) (SP X pins D) X.xe s
def bH{α:Type}{t:Sem α}{Q Q':α->Shared->Prop}{M:Model}{A:Around}{E:Value->Shared->Prop}{s:Shared}(h:wpAny M A t Q E s)(hQ:∀a s,Q a s->Q' a s):wpAny M A t Q' E s:=aaW h hQ λ_ _ x=>x
section
variable{X:Cx}
def bin{a b:Expr}{ta tb:TE}(ha:PE X a ta)(hb:PE X b tb){pins:List (Addr×Obj)}{s:Shared}{σ:St}{H:Hp}{R:V->V->Hp->Prop}(I:Inv X pins σ H s)(h:ta σ H λx H1=>tb σ H1 λy H2=>R x y H2)
  {α:Type} {Q:α->Shared->Prop} {f:Value->Value->Sem α}
  (hf:∀v u s2 x y H2,Inv X pins σ H2 s2->RelV x v->RelV y u->R x y H2->wpAny (model X.prog X.w) X.A (f v u) Q X.xe s2) :
  wpAny (model X.prog X.w) X.A (eval a X.env) (λv s₁=>wpAny (model X.prog X.w) X.A (eval b X.env) (λu s₂=>wpAny (model X.prog X.w) X.A (f v u) Q X.xe s₂) X.xe s₁) X.xe s:=by
 refine bH (ha pins s σ H _ I h) λv s1 ⟨x,H1,I1,c,d⟩=>?_;refine bH (hb pins s1 σ H1 _ I1 d) λu s2 ⟨y,H2,I2,e,g⟩=>?_;exact hf v u s2 x y H2 I2 c e g
noncomputable def sG(i:Nat):TE:=λσ H Q=>∃v,σ[i]?=some (some v)/\Q v H
noncomputable def tC(v:V):TE:=λ_ H Q=>Q v H
def qL {i:Nat}{x:Str}{pos:Pos}(hN:X.N[i]?=some x) (hv:Bj X.env.scope x) (hd:(x==("__debug__" : Str))=false:=by decide) (hcd:(x==("__classdict__" : Str))=false:=by decide):PE X (.Name x pos) (sG i):=by
 intro d s σ H Q I h;obtain⟨v,e,h⟩:=h;obtain⟨m,g,j⟩:=I.loc;obtain⟨u,r,l⟩:=j i x v hN e hv;have fin:EP X d σ Q u s:=⟨v,H,I,r,h⟩
 rcases l with ⟨b,k⟩|⟨b,c,f,a⟩
 .exact wpAny_Name (wpAny_loadName_local I.ok.kind b g k fin) hd
 .rcases b with b|b
  .exact wpAny_Name (wpAny_loadName_cell I.ok.kind b f a fin) hd
  .exact wpAny_Name (wpAny_loadName_free I.ok.kind b f a fin hcd) hd
def Bo{i j pos}:PE X (.Constant (.int i) j pos) (tC (.int i)):=λ_ _ _ H _ I h=>wpAny_Constant_int ⟨.int i,H,I.tok _,⟨_,rfl⟩,h⟩
def Qi{b j pos}:PE X (.Constant (.bool b) j pos) (tC (.bl b)):=λ_ _ _ H _ I h=>Constant_bool ⟨.bl b,H,I,rfl,h⟩
def KJ{x j pos}:PE X (.Constant (.str x) j pos) (tC (.str x)):=λ_ _ _ H _ I h=>Calls.Constant_str ⟨.str x,H,I.tok _,⟨_,rfl⟩,h⟩
def Gl(X:Cx)(x:Str):Prop:=X.env.kindOf x=some .globalImplicit
def yi{E:Value->Shared->Prop}{pins:List (Addr×Obj)}{s:Shared}{σ:St}{H:Hp}{x:Str}{u:Value}{pos:Pos}{Q:Value->Shared->Prop}(I:Inv X pins σ H s)(hg:Gl X x)(hm:X.mg x=some u)(h:Q u s)
  (hd:(x==("__debug__" : Str))=false:=by decide):wpAny (model X.prog X.w) X.A (eval (.Name x pos) X.env) Q E s:=
 abN I.ok.kind hg (Calls.loadGlobal_global (by rw[I.ok.glob];exact I.mod.glob.keeps I.bk) hm h) hd
def kC{E:Value->Shared->Prop}{pins:List (Addr×Obj)}{s:Shared}{σ:St}{H:Hp}{x:Str}{u:Value}{pos:Pos}{Q:Value->Shared->Prop}(I:Inv X pins σ H s)(hg:Gl X x)(hm:X.mg x=none)(hv:bootBuiltins x=some u)(h:Q u s)
  (hn:x≠"__name__" :=by decide) (hd:(x==("__debug__" : Str))=false:=by decide):wpAny (model X.prog X.w) X.A (eval (.Name x pos) X.env) Q E s:=by
 obtain⟨c,a,b⟩:=I.mod.blt;exact abN I.ok.kind hg (Calls.loadGlobal_builtin (by rw[I.ok.glob];exact I.mod.glob.keeps I.bk) hm (by rw[I.ok.blt];exact a.keeps I.bk) ((b x hn).trans hv) h) hd
variable{a b:Expr}{ta tb:TE}{pos:Pos}
variable{tA FJ:TT}{rest:List Expr}
noncomputable def Ua(t u:TT):TT:=λσ H Q=>t σ H λc H1=>if c=true then u σ H1 Q else Q false H1
noncomputable def Vz(t u:TT):TT:=λσ H Q=>t σ H λc H1=>if c=true then Q true H1 else u σ H1 Q
noncomputable def Ub(t:TT):TT:=λσ H Q=>t σ H λc H1=>Q (!c) H1
def HZ(ha:PT X a tA):PW X (.BoolOp .And [a] pos) tA:=by
 intro f d s σ H Q I h;refine isTrue_and (bH (ha d s σ H Q I h) λc s1 e=>?_);cases c with
 |true=>exact isTrue_and_nil e
 |false=>exact e
def KL(ha:PT X a tA):PW X (.BoolOp .Or [a] pos) tA:=by
 intro f d s σ H Q I h;refine isTrue_or (bH (ha d s σ H Q I h) λc s1 e=>?_);cases c with
 |false=>exact isTrue_or_nil e
 |true=>exact e
def KN(ha:PT X a tA)(hb:PW X (.BoolOp .And (b :: rest) pos) FJ):PW X (.BoolOp .And (a :: b :: rest) pos) (Ua tA FJ):=by
 intro f d s σ H Q I h;refine isTrue_and (bH (ha d s σ H _ I h) λc s1 ⟨H1,I1,e⟩=>?_);cases c with
 |true=>exact hb f d s1 σ H1 Q I1 e
 |false=>exact⟨H1,I1,e⟩
def Qj(ha:PT X a tA)(hb:PW X (.BoolOp .Or (b :: rest) pos) FJ):PW X (.BoolOp .Or (a :: b :: rest) pos) (Vz tA FJ):=by
 intro f d s σ H Q I h;refine isTrue_or (bH (ha d s σ H _ I h) λc s1 ⟨H1,I1,e⟩=>?_);cases c with
 |true=>exact⟨H1,I1,e⟩
 |false=>exact hb f d s1 σ H1 Q I1 e
def KO(ha:PT X a tA):PT X (.UnaryOp .Not a pos) (Ub tA):=by
 intro d s σ H Q I h;exact isTrue_not (ha d s σ H (λc H1=>Q (!c) H1) I h)
noncomputable def Qk(ta tb:TE):TE:=λσ H Q=>ta σ H λx H1=>∃c,x=.bl c/\if c=true then tb σ H1 Q else Q (.bl false) H1
def KP{op}{t:TE}(h:PE X a t):PE X (.BoolOp op [a] pos) t:=λpins s σ H Q I hw=>BoolOp_one (h pins s σ H Q I hw)
def KQ(ha:PE X a ta)(hb:PE X (.BoolOp .And (b :: rest) pos) tb):PE X (.BoolOp .And (a :: b :: rest) pos) (Qk ta tb):=by
 intro d s σ H Q I h;refine BoolOp_and (bH (ha d s σ H _ I h) λv s1 ⟨x,H1,I1,f,e⟩=>?_);obtain⟨c,rfl,e⟩:=e;cases f;refine abO ?_;cases c with
 |true=>exact hb d s1 σ H1 Q I1 e
 |false=>exact⟨.bl false,H1,I1,rfl,e⟩
noncomputable def VA(t:TT)(ta tb:TE):TE:=λσ H Q=>t σ H λc H1=>if c=true then ta σ H1 Q else tb σ H1 Q
def DI{c:Expr}(hc:PT X c tA)(ha:PE X a ta)(hb:PE X b tb):PE X (.IfExp c a b pos) (VA tA ta tb):=by
 intro e s σ H Q I h;refine wpAny_IfExp (bH (hc e s σ H _ I h) λd s1 ⟨H1,I1,f⟩=>?_);cases d with
 |true=>exact ha e s1 σ H1 Q I1 f
 |false=>exact hb e s1 σ H1 Q I1 f
end
def fz(K:PySem.W.Frag)(H:Hp)(a:Addr)(xs:List V):Prop:=
 Rd H a (.lst xs)\/
  ∃(o:Obj) (its:Array Value) (n:Nat),K.lookup a=some o/\o.cls=.type "list" /\o.dict=none/\o.data=.seq its n/\its.size<=sizeLine/\Vals xs its.toList
def cU(K:PySem.W.Frag)(H:Hp)(a:Addr)(xs:List V):Prop:=
 Rd H a (.tup xs)\/
  ∃(o:Obj) (its:Array Value) (n:Nat),K.lookup a=some o/\o.cls=.type "tuple" /\o.data=.seq its n/\its.size<=sizeLine/\Vals xs its.toList
noncomputable def Uc:Value->Option V
 |.none=>some .aV
 |.bool b=>some (.bl b)
 |.int i _=>some (.int i)
 |.str x _=>some (.str x)
 |.bytes b _=>some (.yc b)
 |.float b _=>some (.FA b)
 |.ref a=>some (.ref a)
 |.type n=>some (.ty n)
 |_=>none
def RelV.abs{x:V}{u:Value}(r:RelV x u):Uc u=some x:=by
 cases x with
 |aV=>cases r;rfl
 |bl _=>cases r;rfl
 |int _=>obtain⟨t,rfl⟩:=r;rfl
 |str _=>obtain⟨t,rfl⟩:=r;rfl
 |yc _=>obtain⟨t,rfl⟩:=r;rfl
 |FA _=>obtain⟨t,rfl⟩:=r;rfl
 |ref _=>cases r;rfl
 |ty _=>cases r;rfl
theorem RelV.inj{x y:V}{u:Value}(r:RelV x u)(q:RelV y u):x=y:=Vb (r.abs.symm.trans q.abs)
theorem Vals.inj:∀{xs ys:List V}{us:List Value},Vals xs us->Vals ys us->xs=ys
 |_,_,_,.nil,.nil=>rfl
 |_,_,_,.cons r t,.cons r' t'=>by rw[r.inj r',Vals.inj t t']
section
variable{X:Cx}{pins:List (Addr×Obj)}{σ:St}{H:Hp}{s:Shared}{a:Addr}{xs ys:List V}
def fz.of{K:PySem.W.Frag}(h:H a=some (.lst xs)):fz K H a xs:=.inl (.inl h)
def cU.of{K:PySem.W.Frag}(h:H a=some (.tup xs)):cU K H a xs:=.inl (.inl h)
def Inv.list(I:Inv X pins σ H s)(h:fz X.K H a xs):∃its:List Value,Vals xs its/\PlainL s.heap a its.toArray/\xs.length<=sizeLine:=by
 rcases h with h|⟨o,its,n,b,c,d,f,g,r⟩
 .obtain⟨z,its,n,r,e⟩:=h.ok I.hok;exact⟨its,r,⟨_,n,e,rfl,rfl,rfl⟩,z⟩
 .refine⟨its.toList,r,⟨o,n,I.kB a o b,c,d,by simpa using f⟩,?_⟩;have e:=r.length;simp only[abd]at e;omega
def Inv.tuple(I:Inv X pins σ H s)(h:cU X.K H a xs):∃its:List Value,Vals xs its/\IsTup s.heap a its.toArray/\xs.length<=sizeLine:=by
 rcases h with h|⟨o,its,n,b,c,d,f,r⟩
 .obtain⟨z,its,r,p⟩:=h.ok I.hok;exact⟨its,r,p,z⟩
 .refine⟨its.toList,r,⟨o,I.kB a o b,c,n,by simpa using d⟩,?_⟩;have e:=r.length;simp only[abd]at e;omega
def Inv.DJ(I:Inv X pins σ H s)(h:fz X.K H a xs)(h':fz X.K H a ys):xs=ys:=by
 obtain⟨c,r,⟨o,n,e,_,_,d⟩,_⟩:=I.list h;obtain⟨b,i,⟨k,l,f,_,_,g⟩,_⟩:=I.list h';rw[e]at f;cases f;rw[d]at g;injection g with j _
 have:c=b:=by simpa using Z0 Array.toList j
 subst this;exact r.inj i
def Inv.nU(I:Inv X pins σ H s)(h:cU X.K H a xs)(h':cU X.K H a ys):xs=ys:=by
 obtain⟨c,r,⟨o,e,_,n,d⟩,_⟩:=I.tuple h;obtain⟨b,i,⟨k,f,_,l,g⟩,_⟩:=I.tuple h';rw[e]at f;cases f;rw[d]at g;injection g with j _
 have:c=b:=by simpa using Z0 Array.toList j
 subst this;exact r.inj i
end
abbrev Cx.lW(X:Cx)(E:Value->Shared->Prop):Cx:={ X with xe:=E }
abbrev Cx.tW(X:Cx):Cx:=X.lW λ_ _=>False
theorem Cx.Ok.lW{X:Cx}(ok:X.Ok)(E:Value->Shared->Prop):(X.lW E).Ok:=
 ⟨ok.mod,ok.kind,ok.glob,ok.blt,ok.above,ok.inj,ok.has,ok.yf,ok.hd,ok.frames,ok.stk,ok.FF,ok.bs,ok.qK,ok.sE,ok.sF,ok.jc,ok.tV⟩
def Cx.Ok.jD{X:Cx}{E:Value->Shared->Prop}(ok:(X.lW E).Ok):X.Ok:=
 ⟨ok.mod,ok.kind,ok.glob,ok.blt,ok.above,ok.inj,ok.has,ok.yf,ok.hd,ok.frames,ok.stk,ok.FF,ok.bs,ok.qK,ok.sE,ok.sF,ok.jc,ok.tV⟩
section
variable{X:Cx}{pins:List (Addr×Obj)}{σ:St}{H:Hp}{s:Shared}{E:Value->Shared->Prop}
theorem Inv.lW(I:Inv X pins σ H s)(E:Value->Shared->Prop):Inv (X.lW E) pins σ H s:=⟨I.ok.lW E,I.os,I.bare,I.base,I.loc,I.cell,I.free,I.jw,I.pin,I.hok,I.len⟩
theorem Inv.jD(I:Inv (X.lW E) pins σ H s):Inv X pins σ H s:=⟨I.ok.jD,I.os,I.bare,I.base,I.loc,I.cell,I.free,I.jw,I.pin,I.hok,I.len⟩
theorem SP.jD{D:Ends}{f:Flow}{s':Shared}(h:SP (X.lW E) pins D f s'):SP X pins D f s':=by
 cases f with
 |next=>obtain⟨a,H',I,q⟩:=h;exact⟨a,H',I.jD,q⟩
 |brk=>obtain⟨a,H',I,q⟩:=h;exact⟨a,H',I.jD,q⟩
 |cont=>obtain⟨a,H',I,q⟩:=h;exact⟨a,H',I.jD,q⟩
 |ret u=>obtain⟨v,a,H',I,r,q⟩:=h;exact⟨v,a,H',I.jD,r,q⟩
theorem gf.tW{st:List Stmt}{t:TS}(h:gf X.tW st t):gf X st t:=λpins s σ H D I hw=>
 aaW (h pins s σ H D (I.lW _) hw) (λ_ _ q=>q.jD) λ_ _ z=>False.elim z
end
section
variable{X:Cx}{st:Stmt}{rest:List Stmt}{t u:TS}{e:Expr}{te:TE}{pos:Pos}
noncomputable def Ql:TS:=λD σ H=>D.nx σ H
noncomputable def Ud(t u:TS):TS:=λD σ H=>t { D with nx:=u D } σ H
def sH:gf X [] Ql:=λ_ _ σ H _ I h=>ab7 ⟨σ,H,I,h⟩
def gZ(h1:PS X st t)(h2:gf X rest u):gf X (st :: rest) (Ud t u):=by
 intro a s σ H D I h;refine wpAny_execs_cons (bH (h1 a s σ H { D with nx:=u D } I h) λf s1 q=>?_);cases f with
 |next=>
  obtain⟨b,H',I',q⟩:=q;exact h2 a s1 b H' D I' q
 |ret v=>exact q
 |brk=>exact q
 |cont=>exact q
def Inv.quiet{pins:List (Addr×Obj)}{σ:St}{H:Hp}{s:Shared}(I:Inv X pins σ H s):interactive X.env=false:=by simp[interactive,I.ok.kind]
noncomputable def Qm(te:TE):TS:=λD σ H=>te σ H λ_ H1=>D.nx σ H1
def Ia(he:PE X e te)(hs:swapsWith e none pos.line X.env=pure false:=by rfl):PS X (.Expr e pos) (Qm te):=by
 intro a s σ H D I h;exact wpAny_Expr_any (bH (he a s σ H _ I h) λv s1 ⟨x,H1,I1,c,b⟩=>⟨σ,H1,I1,b⟩) I.quiet hs
noncomputable def Ue(te:TE):TS:=λD σ H=>te σ H D.rt
def Bp(he:PE X e te):PS X (.Return (some e) pos) (Ue te):=by
 intro a s σ H D I h;exact wpAny_Return_some (bH (he a s σ H _ I h) λv s1 ⟨x,H1,I1,b,c⟩=>⟨x,σ,H1,I1,b,c⟩)
noncomputable def Ug(c:TT)(t u:TS):TS:=λD σ H=>c σ H λb H1=>if b=true then t D σ H1 else u D σ H1
def Qn{c:Expr}{a b:List Stmt}{tc:TT}(hc:PT X c tc)(ha:gf X a t)(hb:gf X b u):PS X (.If c a b pos) (Ug tc t u):=by
 intro f s σ H D I h;refine wpAny_If (bH (hc f s σ H _ I h) λd s1 ⟨H1,I1,g⟩=>?_);cases d with
 |true=>exact ha f s1 σ H1 D I1 g
 |false=>exact hb f s1 σ H1 D I1 g
noncomputable def KR:TS:=λ_ _ _=>False
def DK:PS X st KR:=λ_ _ _ _ _ _ h=>h.elim
end
abbrev TG:=V->St->Hp->(St->Hp->Prop)->Prop
abbrev tY:=List V->St->Hp->(St->Hp->Prop)->Prop
def PG(X:Cx)(target:Expr)(t:TG):Prop:=
 ∀(pins:List (Addr×Obj)) (s:Shared) (σ:St) (H:Hp) (v:V) (u:Value) (Q:St->Hp->Prop),Inv X pins σ H s->RelV v u->t v σ H Q->
  wpAny (model X.prog X.w) X.A (assign target X.env u) (λ_ a=>∃σ' H',Inv X pins σ' H' a/\Q σ' H') X.xe s
def pV(X:Cx)(ts:List Expr)(t:tY):Prop:=
 ∀(pins:List (Addr×Obj)) (s:Shared) (σ:St) (H:Hp) (vs:List V) (us:List Value) (Q:St->Hp->Prop),Inv X pins σ H s->Vals vs us->t vs σ H Q->
  wpAny (model X.prog X.w) X.A (assignInOrder ((assignEach ts X.env).map (·.2)) us) (λ_ a=>∃σ' H',Inv X pins σ' H' a/\Q σ' H') X.xe s
section
variable{X:Cx}{pos:Pos}
noncomputable def FL(i:Nat):TG:=λv σ H Q=>Q (σ.set i (some v)) H
def yj{i:Nat}{x:Str}(hN:X.N.Nodup)(hi:X.N[i]?=some x)(hx:Loc X.env.scope x)(hf:X.fn x=true\/X.env.scope.names.lookup x=some .local:=by first|exact .inl rfl|exact .inr rfl|assumption):PG X (.Name x pos) (FL i):=by
 intro a s σ H v u Q I r h;exact wpAny_assign_Name (vg I hN hi hx r (λb I'=>⟨_,H,I',h⟩) hf)
noncomputable def Uh:tY:=λvs σ H Q=>vs=[]/\Q σ H
noncomputable def Qo(t:TG)(u:tY):tY:=λvs σ H Q=>∃v r,vs=v :: r/\t v σ H λσ' H'=>u r σ' H' Q
def Ib:pV X [] Uh:=by
 intro a s σ H vs us Q I r h;obtain⟨e,h⟩:=h;subst e;cases r;exact assignInOrder_nil ⟨σ,H,I,h⟩
def DL{e:Expr}{es:List Expr}{t:TG}{u:tY}(h1:PG X e t)(h2:pV X es u)
  (hs:(assignEach (e :: es) X.env).map (·.2)=assign e X.env :: (assignEach es X.env).map (·.2):=by rfl):pV X (e :: es) (Qo t u):=by
 intro a s σ H vs us Q I r h;obtain⟨v,d,b,h⟩:=h;subst b;cases r with
 |cons r c=>
  rw[hs];refine assignInOrder_cons (bH (h1 a s σ H _ _ _ I r h) λ_ s1 ⟨σ1,H1,I1,q1⟩=>?_);exact h2 a s1 σ1 H1 _ _ Q I1 c q1
noncomputable def Ui(K:PySem.W.Frag)(n:Nat)(t:tY):TG:=λv σ H Q=>∃a xs,v=.ref a/\cU K H a xs/\xs.length=n/\t xs σ H Q
def KS{es:List Expr}{k:Nat}{t:tY}{n:Nat}(hc:X.calm=true)(h:pV X es t)
  (hn:(assignEach es X.env).length=n:=by rfl) (hst:(assignEach es X.env).findIdx? (·.1)=none:=by rfl):PG X (.Tuple es k pos) (Ui X.K n t):=by
 intro c s σ H v u Q I r d;obtain⟨a,f,g,i,j,d⟩:=d;subst g;cases r;obtain⟨l,rv,p,y⟩:=I.tuple i;refine assign_Tuple_tuple (I.ok.hd hc) p (by simp[hn,<-j,rv.length]) hst λq x=>?_;have I1:Inv X c σ H { s with heap:=q }:=I.kept (t':=s.toks) λb o e=>x b o (aad (ZW e)) e;exact h c _ σ H f _ Q I1 (by simpa using rv) d
noncomputable def Uj(te:TE)(g:TG):TS:=λD σ H=>te σ H λx H1=>g x σ H1 D.nx
def vh{i:Nat}{x:Str}{e:Expr}{te:TE}{pos':Pos}(hN:X.N.Nodup)(hi:X.N[i]?=some x)(hx:Loc X.env.scope x)(he:PE X e te)(hs:swapsWith e (some (.Name x pos')) pos.line X.env=pure false:=by rfl)(hf:X.fn x=true\/X.env.scope.names.lookup x=some .local:=by first|exact .inl rfl|exact .inr rfl|assumption) :
  PS X (.Assign [.Name x pos'] e pos) (Uj te (FL i)):=by
 intro a s σ H D I h;refine wpAny_Assign_Name (bH (he a s σ H _ I h) λv s1 ⟨y,H1,I1,b,c⟩=>?_) hs;exact vg I1 hN hi hx b (λs2 I2=>⟨_,H1,I2,c⟩) hf
end
section
variable{X:Cx}{pos:Pos}
noncomputable def KU(c:TT)(tb:TS):TS:=λD σ H=>∃W:Nat->St->Hp->Prop,(∃m,W m σ H)/\∀m σ H,W m σ H->
 c σ H λb H1=>if b=true then ∃N:St->Hp->Prop,(∀σ' H',N σ' H'->∃m',m'<m/\W m' σ' H')/\tb { D with nx:=N,ct:=N,bk:=D.nx } σ H1 else D.nx σ H1
def DM{c:Expr}{body:List Stmt}{tc:TT}{tb:TS}(hp:PassesOwn (model X.prog X.w) X.A X.env X.xe)(hc:PT X c tc)(hb:gf X body tb):PS X (.While c body [] pos) (KU tc tb):=by
 intro a s σ H D I h;obtain⟨W,⟨p,q⟩,d⟩:=h;refine wpAny_While (codeAny_whileLoop (λn r=>∃σ' H',Inv X a σ' H' r/\W n σ' H') ?_ p ⟨σ,H,I,q⟩);rintro n s1 ⟨σ1,H1,I1,w1⟩;refine aaQ hp (bH (hc a s1 σ1 H1 _ I1 (d n σ1 H1 w1)) λb s2 ⟨H2,I2,g⟩=>?_);cases b with
 |true=>
  obtain⟨N,o,g⟩:=g;rw[xC rfl];refine aaQ hp (bH (hb a s2 σ1 H2 _ I2 g) λf s3 i=>?_);cases f with
  |next=>
   obtain⟨e,H3,I3,n3⟩:=i;obtain⟨j,k,l⟩:=o e H3 n3;exact⟨j,k,e,H3,I3,l⟩
  |cont=>
   obtain⟨e,H3,I3,n3⟩:=i;obtain⟨j,k,l⟩:=o e H3 n3;exact⟨j,k,e,H3,I3,l⟩
  |brk=>exact i
  |ret v=>exact i
 |false=>
  rw[ZS aaP];exact ab7 ⟨σ1,H2,I2,g⟩
end
structure It where
 go:Nat->Hp->Prop
 FO:Nat->Hp->V->Hp->Prop
 stop:Nat->Hp->Prop
def iF(X:Cx)(pins:List (Addr×Obj))(H:Hp)(b:Addr):Prop:=
 H b=none/\b≠X.env.locals/\b∉X.fs/\(b∈X.ex\/X.s₀.heap.objs.size<=b)/\(∀x c,X.env.cells.lookup x=some c->c≠b)/\∀p∈X.pn++pins,p.1≠b
def Inv.zS{X:Cx}{pins:List (Addr×Obj)}{σ:St}{H H':Hp}{s:Shared}{b:Addr}(I:Inv X pins σ H s)(hb:s.heap.objs.size<=b)(hn:H' b=none):iF X pins H' b:=by
 refine⟨hn,acD (ZN I.lt hb),I.T8 hb,.inr (Z2 I.sz hb),λx c e z=>?_,λp a z=>?_⟩
 .obtain⟨v,q⟩:=I.cell x c e;exact absurd (ZN q.lt (by rw[z];exact hb)) (aah _)
 .exact absurd (ZN (ZW (I.pin p a).1) (by rw[z];exact hb)) (aah _)
structure Turn(P:Program)(w:World)(K:PySem.W.Frag)(tg:Expr)(J:It)(fp:List Addr)(it:Addr)(tn:Nat->Heap->Prop):Prop where
 mem:it∈fp
 obj:∀i h,tn i h->∀b∈fp,∃o,h.get? b=some o/\∀v,o.data≠.cell v
 keep:∀i h h',tn i h->(∀b∈fp,∀o,h.get? b=some o->h'.get? b=some o)->tn i h'
 item:∀(X:Cx),X.prog=P->X.w=w->X.K=K->X.calm=true->∀(i:Nat) (pins:List (Addr×Obj)) (s:Shared) (σ:St) (H:Hp) (E:Value->Shared->Prop),Inv X pins σ H s->(∀b∈fp,iF X pins H b)->tn i s.heap->J.go i H->
  wpAny (model P w) X.A (pyNext (.ref it)) (λr s1=>∃u,r=some u/\
   wpAny (model P w) X.A (letOwnedTupleGo tg (.ref it) u) (λ_ s2=>∃x H',Inv X pins σ H' s2/\RelV x u/\J.FO i H x H'/\tn (i+1) s2.heap/\∀b∈fp,H' b=none) E s1) E s
 done:∀(X:Cx),X.prog=P->X.w=w->X.K=K->X.calm=true->∀(i:Nat) (pins:List (Addr×Obj)) (s:Shared) (σ:St) (H:Hp) (E:Value->Shared->Prop),Inv X pins σ H s->(∀b∈fp,iF X pins H b)->tn i s.heap->J.stop i H->
  wpAny (model P w) X.A (pyNext (.ref it)) (λr s1=>r=none/\Inv X pins σ H s1) E s
 self:∀(A:Around) (i:Nat) (s:Shared) (Q:Value->Shared->Prop) (E:Value->Shared->Prop),tn i s.heap->Q (.ref it) s->wpAny (model P w) A (pyIter (.ref it)) Q E s
abbrev TI:=St->Hp->(It->Hp->Prop)->Prop
def KW(X:Cx)(pins:List (Addr×Obj))(σ:St)(tg:Expr)(R:It->Hp->Prop)(itv:Value)(s2:Shared):Prop:=
 ∃(it:Addr) (fp:List Addr) (tn:Nat->Heap->Prop) (J:It) (H':Hp),itv=.ref it/\Inv X pins σ H' s2/\Turn X.prog X.w X.K tg J fp it tn/\tn 0 s2.heap/\(∀b∈fp,iF X pins H' b)/\R J H'
def PI(X:Cx)(tg iter:Expr)(wi:TI):Prop:=
 ∀(pins:List (Addr×Obj)) (s:Shared) (σ:St) (H:Hp) (R:It->Hp->Prop),Inv X pins σ H s->wi σ H R->
  wpAny (model X.prog X.w) X.A (eval iter X.env) (λv s1=>wpAny (model X.prog X.w) X.A (pyIter v) (KW X pins σ tg R) X.xe s1) X.xe s
def uQ{M:Model}{A:Around}{E:Value->Shared->Prop}{s:Shared}{tg:Expr}{it:Addr}{u:Value}{o:Obj}{n:String}{vs:Array Value}{Q:Unit->Shared->Prop}(ho:s.heap.get? it=some o)(hc:o.cls=.type n)(hd:o.data=.fields vs)
    (hn:["enumerate","zip","dict_itemiterator","dict_reverseitemiterator","odict_iterator","itertools.zip_longest","itertools.pairwise"].contains n=false) (hQ:Q () s):wpAny M A (letOwnedTupleGo tg (.ref it) u) Q E s:=by
  unfold letOwnedTupleGo;cases tg<;>first
    |exact ZR hQ
    | (cases u<;>first
        |exact ZR hQ
        | (refine gv (wpAny_load ho ?_)
           rw[hc,hd];show wpAny M A (if (["enumerate","zip","dict_itemiterator","dict_reverseitemiterator","odict_iterator","itertools.zip_longest","itertools.pairwise"].contains n&&vs[0]?==some (rawInt _))=true then _ else _) Q E s;rw[ZS (by intro h;rw[hn,Bool.false_and]at h;cases h)];exact ZR hQ))
noncomputable def RE(K:PySem.W.Frag)(a:Addr):It:=
 ⟨λi H=>∃xs x,fz K H a xs/\xs[i]?=some x,λi H x H'=>H'=H/\∀xs,fz K H a xs->xs[i]?=some x,λi H=>∃xs,fz K H a xs/\xs.length<=i⟩
noncomputable def RG(K:PySem.W.Frag)(a:Addr):It:=
 ⟨λi H=>∃xs x,cU K H a xs/\xs[i]?=some x,λi H x H'=>H'=H/\∀xs,cU K H a xs->xs[i]?=some x,λi H=>∃xs,cU K H a xs/\xs.length<=i⟩
noncomputable def Bq(lo:Int)(n:Nat):It:=⟨λi _=>i<n,λi H x H'=>H'=H/\x=.int (lo+i),λi _=>n<=i⟩
def Br{P:Program}{w:World}{K:PySem.W.Frag}{tg:Expr}(a it:Addr):Turn P w K tg (RE K a) [it] it (λi h=>h.IsListIter it a i) where
 mem:=by simp
 obj:=λi h f b j=>by
  have e:b=it:=by simpa using j
  subst e;obtain⟨o,e,c,d⟩:=f;exact⟨o,e,λv z=>by rw[d]at z;cases z⟩
 keep:=λi h q f k=>f.at λo e=>k it (by simp) o e
 item:=by
  intro X y A B G i g s σ H E I hf f hg;subst y A B;obtain⟨J,x,r,C⟩:=hg;obtain⟨F,rv,p,L⟩:=I.list r;obtain⟨u,M,N⟩:=rv.get C;obtain⟨f0,f1,f2,f3,f4,f5⟩:=hf it (by simp);refine wpAny_pyNext_list_item f p.isList (x:=u) (by simpa using M) λq l Q=>?_;have I1:Inv X g σ H { s with heap:=q }:=I.turned (t':=s.toks) (λb o j e=>(Q.2 b j).trans e) f0 f1 f3 f4 f5;obtain⟨o,e,c,d⟩:=id l;exact⟨u,rfl,uQ (s:={ s with heap:=q }) e c d (by decide) ⟨x,H,I1,N,⟨rfl,λys Y=>by rw[I.DJ Y r];exact C⟩,l,λb j=>(hf b j).1⟩⟩
 done:=by
  intro X y A B G i g s σ H E I hf f hg;subst y A B;obtain⟨J,r,C⟩:=hg;obtain⟨F,rv,p,L⟩:=I.list r;obtain⟨f0,f1,f2,f3,f4,f5⟩:=hf it (by simp);have hl:=rv.length;exact wpAny_pyNext_list_end (I.ok.hd G) f p.isList (by simp;omega) λq Z=>⟨rfl,I.turned (t':=s.toks) (λb o j e=>Z b o j e) f0 f1 f3 f4 f5⟩
 self:=λ_ _ _ _ _ f h=>wpAny_pyIter_listiter f h
def zT{P:Program}{w:World}{K:PySem.W.Frag}{tg:Expr}(a it:Addr):Turn P w K tg (RG K a) [it] it (λi h=>h.IsTupleIter it a i) where
 mem:=by simp
 obj:=λi h f b j=>by
  have e:b=it:=by simpa using j
  subst e;obtain⟨o,e,c,d⟩:=f;exact⟨o,e,λv z=>by rw[d]at z;cases z⟩
 keep:=λi h r f k=>f.at λo e=>k it (by simp) o e
 item:=by
  intro X A B C G i g s σ H E I hf f hg;subst A B C;obtain⟨J,x,y,F⟩:=hg;obtain⟨l,rv,p,L⟩:=I.tuple y;obtain⟨u,M,N⟩:=rv.get F;obtain⟨f0,f1,f2,f3,f4,f5⟩:=hf it (by simp);refine wpAny_pyNext_tuple_item f (show s.heap.IsTuple a l.toArray from p) (x:=u) (by simpa using M) λr q Q=>?_;have I1:Inv X g σ H { s with heap:=r }:=I.turned (t':=s.toks) (λb o j e=>(Q.2 b j).trans e) f0 f1 f3 f4 f5;obtain⟨o,e,c,d⟩:=id q;exact⟨u,rfl,uQ (s:={ s with heap:=r }) e c d (by decide) ⟨x,H,I1,N,⟨rfl,λys Y=>by rw[I.nU Y y];exact F⟩,q,λb j=>(hf b j).1⟩⟩
 done:=by
  intro X A B C G i g s σ H E I hf f hg;subst A B C;obtain⟨J,y,F⟩:=hg;obtain⟨l,rv,p,L⟩:=I.tuple y;obtain⟨f0,f1,f2,f3,f4,f5⟩:=hf it (by simp);have hl:=rv.length;exact wpAny_pyNext_tuple_end (I.ok.hd G) f (show s.heap.IsTuple a l.toArray from p) (by simp;omega) λr Z=>⟨rfl,I.turned (t':=s.toks) (λb o j e=>Z b o j e) f0 f1 f3 f4 f5⟩
 self:=λ_ _ _ _ _ f h=>wpAny_pyIter_tupleiter f h
def zU{P:Program}{w:World}{K:PySem.W.Frag}{tg:Expr}(it:Addr)(lo:Int)(n:Nat):Turn P w K tg (Bq lo n) [it] it (λi h=>IsRangeIter h it (lo+(i:Nat)*1) ((n:Int) - (i:Nat)) 1) where
 mem:=by simp
 obj:=λi h a b d=>by
  have e:b=it:=by simpa using d
  subst e;exact⟨_,a,λv z=>by
   have r:Data.fields _=Data.cell v:=z;cases r⟩
 keep:=λi h g a k=>k it (by simp) _ a
 item:=by
  intro X j l p q i c s σ H E I hf a hg;subst j l p;obtain⟨f0,f1,f2,f3,f4,f5⟩:=hf it (by simp);have W:=Walks.range (prog:=X.prog) (w:=X.w) (I.ok.hd q) it lo 1 n;refine W.item i s _ _ hg a λv g tk x f y=>?_;obtain⟨t,rfl⟩:=x;have I1:Inv X c σ H { s with heap:=g,toks:=tk }:=I.turned (λb o d e=>y b o (by simpa using d) e) f0 f1 f3 f4 f5;refine⟨_,rfl,uQ (s:={ s with heap:=g,toks:=tk }) (n:="range_iterator") f rfl rfl (by decide) ⟨.int (lo+i),H,I1,⟨t,?_⟩,⟨rfl,rfl⟩,f,λb d=>(hf b d).1⟩⟩;rw[Int.mul_one]
 done:=by
  intro X j l p q i c s σ H E I hf a hg;subst j l p;obtain⟨f0,f1,f2,f3,f4,f5⟩:=hf it (by simp);exact wpAny_pyNext_range_end (I.ok.hd q) a (by have:n<=i:=hg;omega) λg A=>⟨rfl,I.turned (t':=s.toks) (λb o d e=>A b o d e) f0 f1 f3 f4 f5⟩
 self:=λ_ _ _ _ _ a h=>wpAny_pyIter_rangeiter a h
section
variable{X:Cx}{tg:Expr}
def vj{pins:List (Addr×Obj)}{σ:St}{H:Hp}{s:Shared}{R:It->Hp->Prop}{E:Value->Shared->Prop}{lo hi:Int}{t u v:Tok}{tk:Nat}(I:Inv X pins σ H s)(h1:-(2 ^ 62)<=lo)(h2:lo<2 ^ 62)(h3:-(2 ^ 62)<=hi)(h4:hi<2 ^ 62)
  (q:R (Bq lo (hi - lo).toNat) H):wpAny (model X.prog X.w) X.A (pyIter (.ref s.heap.objs.size)) (KW X pins σ tg R) E { s with heap:=s.heap.push { cls:=.type "range",data:=.fields #[.int lo t,.int hi u,.int 1 v]},toks:=tk }:=by
 refine wpAny_pyIter_range (IsRange.new ..) (small_one h1 h2 h3 h4) ?_;have I1:Inv X pins σ H { s with heap:=s.heap.push { cls:=.type "range",data:=.fields #[.int lo t,.int hi u,.int 1 v]},toks:=tk }:=I.kept λb o e=>ZK _ e;refine⟨(s.heap.push { cls:=.type "range",data:=.fields #[.int lo t,.int hi u,.int 1 v]}).objs.size,[(s.heap.push { cls:=.type "range",data:=.fields #[.int lo t,.int hi u,.int 1 v]}).objs.size],_,_,H,rfl,
  I1.kept (t':=tk) λb o e=>ZK _ e,zU _ lo (hi - lo).toNat,?_,λb a=>?_,q⟩
 .have c:lo+((0:Nat):Int)*1=lo:=by simp
  have d:(((hi - lo).toNat:Nat):Int) - ((0:Nat):Int)=Builtin.Range.rangeSize lo hi 1:=by rw[rangeSize_one];split<;>omega
  show IsRangeIter _ _ (lo+((0:Nat):Int)*1) ((((hi - lo).toNat:Nat):Int) - ((0:Nat):Int)) 1;rw[c,d];exact Z1 _ rfl
 .have e:b=(s.heap.push { cls:=.type "range",data:=.fields #[.int lo t,.int hi u,.int 1 v]}).objs.size:=by simpa using a
  subst e;exact I1.zS (ZO _) (I1.hok.fresh (ZO _))
noncomputable def Qp(ta:TA):TI:=λσ H R=>ta σ H λa H1=>∃j:Int,a=[.int j]/\-(2 ^ 62)<=j/\j<2 ^ 62/\R (Bq 0 j.toNat) H1
noncomputable def Qq(ta:TA):TI:=λσ H R=>ta σ H λa H1=>∃i j:Int,a=[.int i,.int j]/\(-(2 ^ 62)<=i/\i<2 ^ 62/\-(2 ^ 62)<=j/\j<2 ^ 62)/\R (Bq i (j - i).toNat) H1
def Bs {a:Expr}{ta:TA}{p pos:Pos}(hg:Gl X "range") (hm:X.mg "range" = none) (ha:PA X [a] ta) (hs:starEach [a] X.env=[(false,eval a X.env)]:=by rfl):PI X tg (.Call (.Name "range" p) [a] [] pos) (Qp ta):=by
 intro b s σ H R I h;refine Call_ (kC I hg hm boot_range (aao (bH (ha pos b s σ H _ I h) λi s1 ⟨k,H1,I1,d,c⟩=>?_) hs rfl));obtain⟨j,e,c,f,q⟩:=c;subst e;cases d with
 |cons r g=>
  cases g;obtain⟨t,rfl⟩:=r;exact call_range_1 (vj I1 (by omega) (by omega) c f (by simpa using q))
def Bt {a b:Expr}{ta:TA}{p pos:Pos}(hg:Gl X "range") (hm:X.mg "range" = none) (ha:PA X [a,b] ta) (hs:starEach [a,b] X.env=[(false,eval a X.env),(false,eval b X.env)]:=by rfl) (hs2:starEach [b] X.env=[(false,eval b X.env)]:=by rfl) :
  PI X tg (.Call (.Name "range" p) [a,b] [] pos) (Qq ta):=by
 intro c s σ H R I h;refine Call_ (kC I hg hm boot_range (aao (bH (ha pos c s σ H _ I h) λy s1 ⟨z,H1,I1,g,d⟩=>?_) (by rw[hs,hs2]) (by rw[hs2];rfl)));obtain⟨i,j,e,⟨d,k,l,o⟩,q⟩:=d;subst e;cases g with
 |cons r f=>
  cases f with
  |cons x f=>
   cases f;obtain⟨t,rfl⟩:=r;obtain⟨A,rfl⟩:=x;exact call_range_2 (vj I1 d k l o q)
noncomputable def Uk(wi:TI)(g:TG)(tb:TS):TS:=λD σ H=>wi σ H λJ H1=>∃W:Nat->Nat->St->Hp->Prop,(∃m,W 0 m σ H1)/\∀i m σ H,W i m σ H->
 (J.stop i H/\D.nx σ H)\/(J.go i H/\∃N:St->Hp->Prop,(∀σ' H',N σ' H'->∃m',m'<m/\W (i+1) m' σ' H')/\∀x H',J.FO i H x H'->g x σ H' λσ2 H2=>tb { D with nx:=N,ct:=N,bk:=D.nx } σ2 H2)
noncomputable def nV(fp:List Addr)(h:Heap):List (Addr×Obj):=fp.filterMap λb=>(h.get? b).map λo=>(b,o)
def jQ{fp:List Addr}{h:Heap}{b:Addr}{o:Obj}(hb:b∈fp)(e:h.get? b=some o):(b,o)∈nV fp h:=List.mem_filterMap.mpr ⟨b,hb,by rw[e];rfl⟩
def Bu{fp:List Addr}{h:Heap}{p:Addr×Obj}(hp:p∈nV fp h):p.1∈fp/\h.get? p.1=some p.2:=by
 obtain⟨b,a,e⟩:=List.mem_filterMap.mp hp;cases q:h.get? b with
 |none=>rw[q]at e;cases e
 |some o=>
  rw[q]at e;have c:(b,o)=p:=Vb e;subst c;exact⟨a,q⟩
def Inv.pinned{pins:List (Addr×Obj)}{σ:St}{H:Hp}{s:Shared}{fp:List Addr}(I:Inv X pins σ H s)(hf:∀b∈fp,iF X pins H b)(ho:∀b∈fp,∃o,s.heap.get? b=some o/\∀v,o.data≠.cell v):Inv X (pins++nV fp s.heap) σ H s:=
 I.yh λp f=>(List.mem_append.mp f).elim (λz=>I.pin p (aab _ z)) λz=>by
  obtain⟨a,e⟩:=Bu z;obtain⟨f0,f1,f2,_⟩:=hf p.1 a;obtain⟨o,c,d⟩:=ho p.1 a;rw[e]at c;cases c;exact⟨e,f0,f1,f2,d⟩
def Inv.m7{pins pl:List (Addr×Obj)}{σ:St}{H:Hp}{s:Shared}(I:Inv X (pins++pl) σ H s):Inv X pins σ H s:=I.yh λp a=>I.pin p (aab _ (aaI _ a))
def KY{iter:Expr}{body:List Stmt}{wi:TI}{g:TG}{tb:TS}{pos:Pos}(hp:PassesOwn (model X.prog X.w) X.A X.env X.xe)(hc:X.calm=true)(hi:PI X tg iter wi)(hg:PG X tg g)(hb:gf X body tb)
  (hs:∀x,foldedSetIterable iter X.env x=pure x:=by intro _;rfl):PS X (.For tg iter body [] pos) (Uk wi g tb):=by
 intro a s σ H D I h;refine wpAny_For (bH (hi a s σ H _ I h) λv s1 G=>bH G λitv s2 K=>?_) hs;obtain⟨it,k,C,J,H2,e,I2,T,q,f2,W,⟨L,M⟩,l⟩:=K;subst e;have y:∀{H':Hp},(∀b∈k,H' b=none)->∀b∈k,iF X a H' b:=λP b hb=>⟨P b hb,(f2 b hb).2⟩
 refine codeAny_forLoop_any (λn F=>∃i σ' H',Inv X a σ' H' F/\C i F.heap/\(∀b∈k,H' b=none)/\W i n σ' H') ?_ L ⟨0,σ,H2,I2,q,λb hb=>(f2 b hb).1,M⟩;rintro n s3 ⟨i,σ3,H3,I3,st3,cF,w3⟩;rcases l i n σ3 H3 w3 with ⟨p,Q⟩|⟨go,N,Y,step⟩
 .refine aaQ hp (bH (T.done X rfl rfl rfl hc i a s3 σ3 H3 X.xe I3 (y cF) st3 p) λr s4 ⟨z,I4⟩=>?_);subst z;exact ab7 ⟨σ3,H3,I4,Q⟩
 .refine aaQ hp (bH (T.item X rfl rfl rfl hc i a s3 σ3 H3 X.xe I3 (y cF) st3 go) λr s4 ⟨u,z,Z⟩=>?_);subst z;refine aaQ hp (bH Z λ_ s5 ⟨x,H5,I5,r5,y5,B,pW⟩=>?_);have VB:=I5.pinned (y pW) (T.obj _ _ B);refine aaQ hp (bH (hg _ s5 σ3 H5 x u _ VB r5 (step x H5 y5)) λ_ s6 ⟨VC,H6,I6,q6⟩=>?_);refine aaQ hp (bH (hb _ s6 VC H6 _ I6 q6) λf s7 j=>?_);have again:∀{c:St} {H7:Hp},Inv X (a++nV k s5.heap) c H7 s7->N c H7->∃m,m<n/\∃i σ' H',Inv X a σ' H' s7/\C i s7.heap/\(∀b∈k,H' b=none)/\W i m σ' H':=λ{c H7} I7 n7=>by
   obtain⟨m',hm,w7⟩:=Y c H7 n7;refine⟨m',hm,i+1,c,H7,I7.m7,T.keep _ _ _ B λb hb o e=>(I7.pin (b,o) (aab _ (aab _ (jQ hb e)))).1,λb hb=>?_,w7⟩;obtain⟨o,e,d⟩:=T.obj _ _ B b hb;exact(I7.pin (b,o) (aab _ (aab _ (jQ hb e)))).2.1
  cases f with
  |next=>obtain⟨c,H7,I7,n7⟩:=j;exact again I7 n7
  |cont=>obtain⟨c,H7,I7,n7⟩:=j;exact again I7 n7
  |brk=>obtain⟨c,H7,I7,j⟩:=j;exact⟨c,H7,I7.m7,j⟩
  |ret v=>obtain⟨x7,c,H7,I7,r7,j⟩:=j;exact⟨x7,c,H7,I7.m7,r7,j⟩
end
abbrev R2:=V->V->Hp->VK->Prop
def eF(X:Cx)(f:Value->Value->Sem Value)(r:R2):Prop:=
 ∀(pins:List (Addr×Obj)) (s:Shared) (σ:St) (H:Hp) (x y:V) (v u:Value) (Q:VK),Inv X pins σ H s->RelV x v->RelV y u->r x y H Q->
  wpAny (model X.prog X.w) X.A (f v u) (EP X pins σ Q) X.xe s
def KZ(X:Cx)(f:Value->Sem Value)(r:V->Hp->VK->Prop):Prop:=
 ∀(pins:List (Addr×Obj)) (s:Shared) (σ:St) (H:Hp) (x:V) (v:Value) (Q:VK),Inv X pins σ H s->RelV x v->r x H Q->
  wpAny (model X.prog X.w) X.A (f v) (EP X pins σ Q) X.xe s
def gx(X:Cx)(f:Value)(r:List V->Hp->VK->Prop):Prop:=
 ∀(pins:List (Addr×Obj)) (s:Shared) (σ:St) (H:Hp) (xs:List V) (us:List Value) (Q:VK),Inv X pins σ H s->Vals xs us->r xs H Q->
  wpAny (model X.prog X.w) X.A (call f us) (EP X pins σ Q) X.xe s
def Ul(X:Cx)(r:V->Hp->(Bool->Hp->Prop)->Prop):Prop:=
 ∀(pins:List (Addr×Obj)) (s:Shared) (σ:St) (H:Hp) (x:V) (v:Value) (Q:Bool->Hp->Prop),Inv X pins σ H s->RelV x v->r x H Q->
  wpAny (model X.prog X.w) X.A (truthy v) (TP X pins σ Q) X.xe s
noncomputable def Bv(r:R2)(ta tb:TE):TE:=λσ H Q=>ta σ H λx H1=>tb σ H1 λy H2=>r x y H2 Q
noncomputable def VD(r:V->Hp->VK->Prop)(ta:TE):TE:=λσ H Q=>ta σ H λx H1=>r x H1 Q
noncomputable def rI(C:Int->Int->Prop)(g:Int->Int->V):R2:=λx y H Q=>∃i j,x=.int i/\y=.int j/\C i j/\Q (g i j) H
noncomputable def vm(g:Int->Int->V):R2:=λx y H Q=>∃i j,x=.int i/\y=.int j/\Q (g i j) H
def rU(g:Int->V):V->Hp->VK->Prop:=λx H Q=>∃i,x=.int i/\Q (g i) H
section
variable{X:Cx}{a b:Expr}{ta tb:TE}{pos:Pos}
def DN(ha:PE X a ta)(hb:PE X b tb){pins:List (Addr×Obj)}{s:Shared}{σ:St}{H:Hp}{R:V->V->Hp->Prop}(I:Inv X pins σ H s)
  (h:ta σ H λx H1=>tb σ H1 λy H2=>R x y H2) {Q:Value->Shared->Prop} {f:Value->Value->Sem Value}
  (hf:∀v u s2 x y H2,Inv X pins σ H2 s2->RelV x v->RelV y u->R x y H2->wpAny (model X.prog X.w) X.A (f v u) Q X.xe s2) :
  wpAny (model X.prog X.w) X.A (eval a X.env) (λv s₁=>wpAny (model X.prog X.w) X.A (eval b X.env) (λu s₂=>wpAny (model X.prog X.w) X.A (f v u) Q X.xe s₂) X.xe s₁) X.xe s:=by
 refine bH (ha pins s σ H _ I h) λv s1 ⟨x,H1,I1,c,d⟩=>?_;refine bH (hb pins s1 σ H1 _ I1 d) λu s2 ⟨y,H2,I2,e,g⟩=>?_;exact hf v u s2 x y H2 I2 c e g
def Qs{op:Operator}{r:R2}(ho:eF X (binaryOp op) r)(ha:PE X a ta)(hb:PE X b tb):PE X (.BinOp a op b pos) (Bv r ta tb):=by
 intro c s σ H Q I h;exact wpAny_BinOp (DN ha hb I h λv u s2 x y H2 I2 d e q=>ho c s2 σ H2 x y v u Q I2 d e q)
def FP{op:UnaryOp}{r:V->Hp->VK->Prop}(ho:KZ X (unaryOp op) r)(ha:PE X a ta):PE X (.UnaryOp op a pos) (VD r ta):=by
 intro c s σ H Q I h;exact UnaryOp_ (bH (ha c s σ H _ I h) λv s1 ⟨x,H1,I1,d,e⟩=>ho c s1 σ H1 x v Q I1 d e)
def K0{f:Value->Value->Sem Value}{C:Int->Int->Prop}{g:Int->Int->Int}
  (rule:∀(i j:Int) (t u:Tok) (s:Shared) (Q:Value->Shared->Prop) (E:Value->Shared->Prop),C i j->Q (.int (g i j) s.toks) { s with toks:=s.toks+1 }->wpAny (model X.prog X.w) X.A (f (.int i t) (.int j u)) Q E s) :
  eF X f (rI C λi j=>.int (g i j)):=by
 intro c s σ H x y v u Q I rx ry h;obtain⟨i,j,rfl,rfl,d,q⟩:=h;obtain⟨t,rfl⟩:=rx;obtain⟨e,rfl⟩:=ry;exact rule i j t e s _ _ d ⟨.int (g i j),H,I.tok _,⟨_,rfl⟩,q⟩
def K1{f:Value->Value->Sem Value}{g:Int->Int->Int}
  (rule:∀(i j:Int) (t u:Tok) (s:Shared) (Q:Value->Shared->Prop) (E:Value->Shared->Prop),Q (.int (g i j) s.toks) { s with toks:=s.toks+1 }->wpAny (model X.prog X.w) X.A (f (.int i t) (.int j u)) Q E s) :
  eF X f (vm λi j=>.int (g i j)):=by
 intro c s σ H x y v u Q I rx ry h;obtain⟨i,j,rfl,rfl,q⟩:=h;obtain⟨t,rfl⟩:=rx;obtain⟨d,rfl⟩:=ry;exact rule i j t d s _ _ ⟨.int (g i j),H,I.tok _,⟨_,rfl⟩,q⟩
def K3{f:Value->Value->Sem Value}{g:Int->Int->Bool}
  (rule:∀(i j:Int) (t u:Tok) (s:Shared) (Q:Value->Shared->Prop) (E:Value->Shared->Prop),Q (.bool (g i j)) s->wpAny (model X.prog X.w) X.A (f (.int i t) (.int j u)) Q E s) :
  eF X f (vm λi j=>.bl (g i j)):=by
 intro c s σ H x y v u Q I rx ry h;obtain⟨i,j,rfl,rfl,q⟩:=h;obtain⟨t,rfl⟩:=rx;obtain⟨d,rfl⟩:=ry;exact rule i j t d s _ _ ⟨.bl (g i j),H,I,rfl,q⟩
def Um(i j:Int):Prop:=0<j/\j<1073741824
def DO(i j:Int):Prop:=(-(2 ^ 64)<i/\i<2 ^ 64)\/(-(2 ^ 64)<j/\j<2 ^ 64)
def DO.ok{i j:Int}(h:DO i j):IntMulOk i j:=by
 rcases h with ⟨c,d⟩|⟨c,d⟩
 .exact .of_left (intBits_le_64 c d)
 .exact .of_right (intBits_le_64 c d)
def K4:eF X (binaryOp .Add) (vm λi j=>.int (i+j)):=K1 λ_ _ _ _ _ _ _ q=>add_int q
def K5:eF X (binaryOp .Sub) (vm λi j=>.int (i - j)):=K1 λ_ _ _ _ _ _ _ q=>sub_int q
def K6:eF X (binaryOp .Mult) (rI DO λi j=>.int (i*j)):=K0 λ_ _ _ _ _ _ _ c q=>mul_int q c.ok
def Ic:eF X (binaryOp .FloorDiv) (rI Um λi j=>.int (i / j)):=K0 λi j _ _ _ _ _ c q=>by
 have d:(0:Int)<j:=c.1;have e:j<1073741824:=c.2;exact floordiv_int (by omega) (by rw[Int.fdiv_eq_ediv_of_nonneg i (by omega)];exact q) (.inl (acf (by omega)))
def K7:eF X (binaryOp .Mod) (rI (λ_ j=>0<j) λi j=>.int (i % j)):=K0 λi j _ _ _ _ _ c q=>by
 have d:(0:Int)<j:=c;exact mod_int' (by omega) (by rw[Int.fmod_eq_emod_of_nonneg i (by omega)];exact q)
def VE{f:Value->Sem Value}{g:Int->Int}
  (rule:∀(i:Int) (t:Tok) (s:Shared) (Q:Value->Shared->Prop) (E:Value->Shared->Prop),Q (.int (g i) s.toks) { s with toks:=s.toks+1 }->wpAny (model X.prog X.w) X.A (f (.int i t)) Q E s) :
  KZ X f (rU λi=>.int (g i)):=by
 intro c s σ H x v Q I rx h;obtain⟨i,rfl,q⟩:=h;obtain⟨t,rfl⟩:=rx;exact rule i t s _ _ ⟨.int (g i),H,I.tok _,⟨_,rfl⟩,q⟩
def Bw:KZ X (unaryOp .USub) (rU λi=>.int (-i)):=VE λ_ _ _ _ _ q=>neg_int q
end
section
variable{X:Cx}{a b c:Expr}{ta tb:TE}{pos:Pos}
def Qt:eF X (compareOp .Lt) (vm λi j=>.bl (decide (i<j))):=K3 λ_ _ _ _ _ _ _ q=>lt_int q
def Qu:eF X (compareOp .Gt) (vm λi j=>.bl (decide (j<i))):=K3 λ_ _ _ _ _ _ _ q=>gt_int q
def mC(b:Expr){op:CmpOp}(h:op≠.In:=by decide)(h2:op≠.NotIn:=by decide):behindInMarks op b=false:=by
 have d:(op==CmpOp.In)=false:=by cases op<;>first|rfl|exact absurd rfl h
 have e:(op==CmpOp.NotIn)=false:=by cases op<;>first|rfl|exact absurd rfl h2
 cases b<;>simp[behindInMarks,d,e]
def Ie{op:CmpOp}{r:R2}(ho:eF X (compareOp op) r)(ha:PE X a ta)(hb:PE X b tb)(hm:behindInMarks op b=false):PE X (.Compare a [op] [b] pos) (Bv r ta tb):=by
 intro d s σ H Q I h;exact wpAny_Compare1 (DN ha hb I h λv u s2 x y H2 I2 e f q=>ho d s2 σ H2 x y v u Q I2 e f q) hm
noncomputable def Qv(t:TE):TT:=λσ H Q=>t σ H λx H'=>∃k,x=.bl k/\Q k H'
def Ig{op:CmpOp}{r:R2}(ho:eF X (compareOp op) r)(ha:PE X a ta)(hb:PE X b tb)(hm:behindInMarks op b=false):PT X (.Compare a [op] [b] pos) (Qv (Bv r ta tb)):=by
 intro d s σ H Q I h;refine wpAny_isTrue_Compare1 (bH (ha d s σ H _ I h) λv s1 ⟨x,H1,I1,f,g⟩=>bH (hb d s1 σ H1 _ I1 g) λu s2 ⟨y,H2,I2,i,j⟩=>
  bH (ho d s2 σ H2 x y v u _ I2 f i j) λc s3 ⟨z,H3,I3,l,k,e,o⟩=>?_) hm
 subst e;cases l;exact abO ⟨H3,I3,o⟩
def DP(K:PySem.W.Frag)(x:V)(H:Hp)(k:Bool):Prop:=
 match x with
 |.aV=>k=false
 |.bl b=>k=b
 |.int i=>k=(i != 0)
 |.str y=>y.length<=sizeLine/\k=((y.length:Int) != 0)
 |.yc y=>y.size<=sizeLine/\k=((y.size:Int) != 0)
 |.ref p=>(∃xs,fz K H p xs/\k = !xs.isEmpty)\/(∃xs,cU K H p xs/\k = !xs.isEmpty)\/∃kvs,H p=some (.dK kvs)/\k = !kvs.isEmpty
 |_=>False
def zV{κ:Type}{kvs:List (κ×V)}{vs:List (κ×Value)}(r:KV kvs vs):(!vs.isEmpty) = !kvs.isEmpty:=by
 cases r<;>rfl
def qM{xs:List V}{its:List Value}(r:Vals xs its):(!its.toArray.isEmpty) = !xs.isEmpty:=by
 cases r<;>simp
def mD:(sizeLine:Nat)<2 ^ 63:=by rw[aaG];decide
def K8:Ul X (λx H Q=>∃k,DP X.K x H k/\Q k H):=by
 intro A s σ H x v Q I rx h;obtain⟨k,e,q⟩:=h;have C:=mD;have F:sizeLine=16777216:=aaG;cases x with
 |aV=>
  cases rx;have d:k=false:=e;subst d;exact truthy_none ⟨H,I,q⟩
 |bl b=>
  cases rx;have d:k=b:=e;subst d;exact abO ⟨H,I,q⟩
 |int i=>
  obtain⟨t,rfl⟩:=rx;have d:k=(i != 0):=e;subst d;exact PySem.P.truthy_int ⟨H,I,q⟩
 |str y=>
  obtain⟨t,rfl⟩:=rx;obtain⟨hy,d⟩:y.length<=sizeLine/\k=((y.length:Int) != 0):=e;subst d;exact PySem.P.truthy_str (by omega) ⟨H,I.tok _,q⟩
 |yc y=>
  obtain⟨t,rfl⟩:=rx;obtain⟨hy,d⟩:y.size<=sizeLine/\k=((y.size:Int) != 0):=e;subst d;exact PySem.W.truthy_bytes (by omega) ⟨H,I.tok _,q⟩
 |ref p=>
  cases rx;have d:(∃j,fz X.K H p j/\k = !j.isEmpty)\/(∃j,cU X.K H p j/\k = !j.isEmpty)\/∃f,H p=some (.dK f)/\k = !f.isEmpty:=e;rcases d with ⟨j,l,d⟩|⟨j,l,d⟩|⟨f,l,d⟩
  .subst d;obtain⟨o,r,z,B⟩:=I.list l;have g:=r.length;exact wpAny_truthy_list z.isList (by simp only[ZL];omega) ⟨H,I.tok _,by rw[qM r];exact q⟩
  .subst d;obtain⟨o,r,z,B⟩:=I.tuple l;have g:=r.length;exact truthy_tuple z (by simp only[ZL];omega) ⟨H,I.tok _,by rw[qM r];exact q⟩
  .subst d;obtain⟨B,hS,vs,r,m⟩:f.length<=sizeLine/\(p==sysModules)=false/\∃vs,KV f vs/\s.heap.DictOf (sD X.prog X.w) p vs:=I.hok p _ l;have g:f.length=vs.length:=Paired.length r;exact wpAny_truthy_dict hS m (by omega) ⟨H,I.tok _,by rw[zV r];exact q⟩
 |_=>exact(show False from e).elim
def vn(ha:PE X a ta)(he:∀whole,isTrue a X.env whole=(do let v <-whole;standAt a.pos;holding [v] (truthy v))) :
  PT X a (λσ H Q=>ta σ H λx H'=>∃k,DP X.K x H' k/\Q k H'):=by
 intro d s σ H Q I h;exact isTrue_plain (bH (ha d s σ H _ I h) λv s1 ⟨x,H1,I1,e,f⟩=>K8 d s1 σ H1 x v Q I1 e f) (he _)
def zW:eF X (binaryOp .Add) (λx y H Q=>∃i j,x=.str i/\y=.str j/\i.length+j.length<=sizeLine/\Q (.str (i++j)) H):=by
 intro d s σ H x y v u Q I rx ry h;obtain⟨i,j,rfl,rfl,e,q⟩:=h;obtain⟨t,rfl⟩:=rx;obtain⟨f,rfl⟩:=ry;exact add_str (λf tk=>⟨.str (i++j),H,I.tok _,⟨_,rfl⟩,q⟩) e
def vals1{x:V}{us:List Value}(r:Vals [x] us):∃u,us=[u]/\RelV x u:=by
 cases r with
 |cons d e=>cases e;exact⟨_,rfl,d⟩
def vals2{x y:V}{us:List Value}(r:Vals [x,y] us):∃u w',us=[u,w']/\RelV x u/\RelV y w':=by
 cases r with
 |cons d e=>
  cases e with
  |cons f g=>cases g;exact⟨_,_,rfl,d,f⟩
def Bx (hc:X.calm=true):gx X (.builtin "min") (λxs H Q=>∃i j,xs=[.int i,.int j]/\Q (.int (if j<i then j else i)) H):=by
 intro e s σ H xs us Q I r h;obtain⟨i,j,rfl,q⟩:=h;obtain⟨u,f,rfl,⟨t,rfl⟩,⟨g,rfl⟩⟩:=vals2 r;refine min_two_ints (I.ok.hd hc) λl tk k=>⟨_,H,I.kept k,?_,q⟩
 by_cases d:j<i
 .rw[xC d,xC d];exact⟨_,rfl⟩
 .rw[ZS d,ZS d];exact⟨_,rfl⟩
end
structure qp(h:Heap)(x dx C:Addr)(mA:Str->Option Value):Prop where
 obj:h.get? x=some (PySem.W.instObj C dx)
 ns:h.Ns1 dx mA
 ne:dx≠x
def By{h:Heap}{dx:Addr}{mA:Str->Option Value}(n:h.Ns1 dx mA):∃od,h.get? dx=some od/\∀name,PySem.W.lookIn name od=some (mA name):=by
 obtain⟨o,c,l,d,f,g,_,i⟩:=n;refine⟨o,d,λname=>?_⟩;have e:=i name;unfold nsFind findBy at e;rw[<-Array.find?_toList]at e;unfold PySem.W.lookIn;rw[f];dsimp only;split
 .rename_i y q;rw[q]at e;exact Z0 some e
 .rename_i q;rw[q]at e;have a:c.toList.any (·.refKey)=false:=by
   rw[List.any_eq_false];intro y j;obtain⟨z,t,b⟩:=g y (Array.mem_toList_iff.mp j);simp[DictEntry.refKey,b]
  have k:¬ c.toList.any (·.refKey)=true:=by rw[a];exact aaP
  rw[ZS k];exact Z0 some e
def qp.look{h:Heap}{x dx C:Addr}{mA:Str->Option Value}(I:qp h x dx C mA):∃od,PySem.W.InstAt h x (PySem.W.instObj C dx) C (some od)/\∀name,PySem.W.lookIn name od=some (mA name):=
 let ⟨od,ho,hl⟩:=By I.ns
 ⟨od,⟨I.obj,rfl,rfl,ho⟩,hl⟩
section
variable{prog:Program}{w:World}{A:Around}{E:Value->Shared->Prop}{s:Shared}{K:PySem.W.Frag}{x dx C f:Addr}{mA:Str->Option Value}{name:Str}{v:Value}
def get_map{expr:Bool}{Q:Value->Shared->Prop}(X:K.In s.heap)(I:qp s.heap x dx C mA)(hg:PySem.W.plainGet K C name=true)(hh:PySem.W.hasDictIn K C=true)
  (ha:PySem.W.findIn K (.ref C) name=some none) (hv:mA name=some v) (hv':PySem.W.handedIn v=true) (h:Q v { s with toks:=s.toks+1 }) :
  wpAny (model prog w) A (getAttr (.ref x) name expr) Q E s:=by
 obtain⟨b,J,a⟩:=I.look;exact PySem.W.get_value X J (abH hg).1 (PySem.W.findObj_own hh ha rfl (by rw[a,hv])) hv' h
def DQ{pl:Sem Bool}{Q:Value×List Value->Shared->Prop}(X:K.In s.heap)(I:qp s.heap x dx C mA)(hg:PySem.W.plainGet K C name=true)
  (hf:PySem.W.findIn K (.ref C) name=some (some (.ref f))) (ht:PySem.W.isFn K (.ref f)=true) (hv:mA name=none) (h:Q (.ref f,[.ref x]) s) :
  wpAny (model prog w) A (getMethod (.ref x) name pl) Q E s:=by
 obtain⟨a,J,b⟩:=I.look;exact PySem.W.method_fn X J (abH hg).1 (abH hg).2 hf (beq_iff_eq.mp ht) (by show(PySem.W.lookIn name a).map (·.isSome)=some false;rw[b,hv];rfl) h
def Ih{ns:List Str}{Q:Unit->Shared->Prop}(X:K.In s.heap)(I:qp s.heap x dx C mA)
  (hs:PySem.W.findIn K (.ref C) "__setattr__" = some (some (.builtin "object.__setattr__"))) (hp:PySem.W.plainOver K C=true) (ht:PySem.W.takerIn K C name=some none) (hh:PySem.W.hasDictIn K C=true)
  (hw:PySem.Within mA ns) (hsz:ns.length<=sizeLine)
  (h:∀h',qp h' x dx C (λy=>if y=name then some v else mA y)->Heap.SameBut dx s.heap h'->Q () { s with heap:=h',toks:=s.toks+2 }) :
  wpAny (model prog w) A (setAttr (.ref x) name v) Q E s:=by
 obtain⟨k,J,l⟩:=I.look;refine PySem.W.set_plain X J hs (PySem.W.osa_open (s:={ s with toks:=s.toks+1 }) (r:=none) X J hp ht λb=>?_);obtain⟨o,g,e⟩:=PySem.W.any_some hh;have i:s.heap.get? x=some ⟨.ref C,some dx,.plain,#[]⟩:=I.obj;refine gv (ZR (gv (gv (wpAny_loadPart i (gv (PySem.W.Looks.here (s:={ s with toks:=s.toks+1 }) (PySem.W.looks_clsIn X g) ?_))))));rw[e];refine ZR (a:=some dx) (gv (ZR (gv ?_)));refine wpAny_nsSet1 (s:={ s with toks:=s.toks+1 }) I.ns λh' c d=>?_;obtain⟨p,j,XR,VF,VG,VH⟩:=c.count (PySem.Within.cons name v hw);refine gv (wpAny_lookBehind VF (by rw[VG];exact pastItsLine_dict (Z2 VH (by rw[ZU];omega))) ?_);exact ZR (h _ ⟨(d.2 _ (aay I.ne)).trans I.obj,c,I.ne⟩ d)
def DR{R:Result->Shared->Prop}{vs:List Value}{kw:List (Str×Value)}(X:K.In s.heap)(hm:PySem.W.makesIn K C=true)
  (hi:PySem.W.findIn K (.ref C) "__init__" = some (some (.ref f))) (hf:PySem.W.typeIn K (.ref f)=some (.type "function"))
  (h:codeAny (model prog w) (A.under (.builtin "type.__call__" ⟨.ref C :: vs,kw⟩)) (.call (.ref f) ⟨.ref (s.heap.objs.size+1) :: vs,kw⟩) (PySem.W.InitBack (s.heap.objs.size+1) R)
   { s with heap:=(s.heap.push PySem.W.emptyDict).push (PySem.W.instObj C s.heap.objs.size)}) :
  codeAny (model prog w) A (.call (.ref C) ⟨vs,kw⟩) R s:=by
 obtain⟨b,g,d,t,c⟩:=s;exact PySem.W.make_core (PySem.W.makes_of X hm) (PySem.W.looks_findIn X hi) (λa=>PySem.W.bind_fn X a hf) (.inl rfl) h
end
noncomputable def bw(f:Str)(v:V):List (Str×V)->List (Str×V)
 |[]=>[(f,v)]
 | (g,x) :: r=>if g=f then (g,v) :: r else (g,x) :: bw f v r
theorem bx(f g:Str)(v:V):∀fs:List (Str×V),(bw f v fs).lookup g=if g=f then some v else fs.lookup g
 |[]=>by
  show List.lookup g [(f,v)]=_;by_cases h:g=f
  .have a:(g==f)=true:=beq_iff_eq.mpr h;simp only[List.lookup,a,xC h]
  .have a:(g==f)=false:=beq_eq_false_iff_ne.mpr h;simp only[List.lookup,a,ZS h]
 | (k,x) :: r=>by
  have c:=bx f g v r;rw[show bw f v ((k,x) :: r)=(if k=f then (k,v) :: r else (k,x) :: bw f v r)from rfl];by_cases b:k=f
  .rw[xC b];by_cases h:g=k
   .have a:(g==k)=true:=beq_iff_eq.mpr h;simp only[List.lookup,a,xC (h.trans b)]
   .have a:(g==k)=false:=beq_eq_false_iff_ne.mpr h;simp only[List.lookup,a,ZS (λe:g=f=>h (e.trans b.symm))]
  .rw[ZS b];by_cases h:g=k
   .have a:(g==k)=true:=beq_iff_eq.mpr h;simp only[List.lookup,a,ZS (λe:g=f=>b (h.symm.trans e))]
   .have a:(g==k)=false:=beq_eq_false_iff_ne.mpr h;simp only[List.lookup,a];exact c
theorem nX(f:Str)(v:V):∀fs:List (Str×V),f∈(bw f v fs).map (·.1)/\∀g,g∈fs.map (·.1)->g∈(bw f v fs).map (·.1)
 |[]=>⟨by simp[bw],λg h=>by simp at h⟩
 | (k,x) :: r=>by
  obtain⟨i1,i2⟩:=nX f v r;rw[show bw f v ((k,x) :: r)=(if k=f then (k,v) :: r else (k,x) :: bw f v r)from rfl];by_cases a:k=f
  .rw[xC a];subst a;exact⟨by simp,λg h=>by simpa using h⟩
  .rw[ZS a];refine⟨?_,λg h=>?_⟩
   .rw[ZT];exact ZY _ i1
   .rw[ZT]at h ⊢;rcases List.mem_cons.mp h with e|e
    .exact List.mem_cons.mpr (.inl e)
    .exact ZY _ (i2 g e)
theorem fV(f:Str)(v:V):∀fs:List (Str×V),(bw f v fs).length<=fs.length+1
 |[]=>by simp[bw]
 | (k,x) :: r=>by
  have b:=fV f v r;rw[show bw f v ((k,x) :: r)=(if k=f then (k,v) :: r else (k,x) :: bw f v r)from rfl];by_cases a:k=f
  .rw[xC a,ZU,ZU];omega
  .rw[ZS a,ZU,ZU];omega
def lV.some_of{v:V}{o:Option Value}(r:lV (some v) o):∃u,o=some u/\RelV v u:=by
 cases o with
 |none=>exact(show False from r).elim
 |some u=>exact⟨u,rfl,r⟩
def lV.none_of{o:Option Value}(r:lV none o):o=none:=by
 cases o with
 |none=>rfl
 |some u=>exact(show False from r).elim
def BA{v:V}{u:Value}(r:RelV v u):PySem.W.handedIn u=true:=by
 cases v with
 |aV=>cases (show u=Value.none from r);rfl
 |bl b=>cases (show u=Value.bool b from r);rfl
 |int i=>obtain⟨t,e⟩:=(show ∃t,u=Value.int i t from r);cases e;rfl
 |str x=>obtain⟨t,e⟩:=(show ∃t,u=Value.str x t from r);cases e;rfl
 |yc b=>obtain⟨t,e⟩:=(show ∃t,u=Value.bytes b t from r);cases e;rfl
 |FA b=>obtain⟨t,e⟩:=(show ∃t,u=Value.float b t from r);cases e;rfl
 |ref a=>cases (show u=Value.ref a from r);rfl
 |ty n=>cases (show u=Value.type n from r);rfl
section
variable{P:Program}{w:World}{H:Hp}{h:Heap}{a C dx:Addr}{fs:List (Str×V)}
def sI(hok:gc P w H h)(e:H a=some (.ins C dx fs)):∃mA,qp h a dx C mA/\(∀f,lV (fs.lookup f) (mA f))/\PySem.Within mA (fs.map (·.1))/\fs.length<=1000/\H dx=some (.own a):=by
 obtain⟨d,z,b,c,mA,n,r,q⟩:=(show fO P w H h a (.ins C dx fs)from hok a _ e)
 exact⟨mA,⟨c,n,b⟩,r,q,z,d⟩
end
structure mE(K:PySem.W.Frag)(C:Addr):Prop where
 pg:PySem.W.plainGet K C Str.empty=true
 hd:PySem.W.hasDictIn K C=true
 po:PySem.W.plainOver K C=true
 sa:PySem.W.findIn K (.ref C) "__setattr__" = some (some (.builtin "object.__setattr__"))
def mE.get{K:PySem.W.Frag}{C:Addr}(c:mE K C)(f:Str):PySem.W.plainGet K C f=true:=c.pg
def fR(K:PySem.W.Frag)(C:Addr)(f:Str):Prop:=PySem.W.findIn K (.ref C) f=some none
def fR.Qw{K:PySem.W.Frag}{C:Addr}{f:Str}(n:fR K C f):PySem.W.takerIn K C f=some none:=by
 unfold PySem.W.takerIn;rw[show PySem.W.findIn K (.ref C) f=some none from n];rfl
structure Meth(K:PySem.W.Frag)(C:Addr)(m:Str)(f:Addr):Prop where
 at_:PySem.W.findIn K (.ref C) m=some (some (.ref f))
 fn:PySem.W.isFn K (.ref f)=true
 kp:PySem.W.keepIn K (.ref f)=true
section
variable{X:Cx}{pins:List (Addr×Obj)}{σ:St}{H:Hp}{s:Shared}{a C dx:Addr}{fs:List (Str×V)}{f:Str}{v:V}{A:Around}{E:Value->Shared->Prop}
def zX{b:Bool}{Q:Value->Shared->Prop}(I:Inv X pins σ H s)(e:H a=some (.ins C dx fs))(c:mE X.K C)(n:fR X.K C f)(l:fs.lookup f=some v)
  (h:∀u s',Inv X pins σ H s'->RelV v u->Q u s'):wpAny (model X.prog X.w) A (getAttr (.ref a) f b) Q E s:=by
 obtain⟨g,O,r,_,_,_⟩:=sI I.hok e;obtain⟨u,i,d⟩:=lV.some_of (v:=v) (o:=g f) (by rw[<-l];exact r f);exact get_map I.kB O (c.get f) c.hd n i (BA d) (h u _ (I.tok _) d)
def qN{m:Str}{g:Addr}{pl:Sem Bool}{Q:Value×List Value->Shared->Prop}(I:Inv X pins σ H s)(e:H a=some (.ins C dx fs))(c:mE X.K C)(k:Meth X.K C m g)(l:fs.lookup m=none)
  (h:Q (.ref g,[.ref a]) s):wpAny (model X.prog X.w) A (getMethod (.ref a) m pl) Q E s:=by
 obtain⟨b,O,r,_,_,_⟩:=sI I.hok e;have d:b m=none:=lV.none_of (by rw[<-l];exact r m);exact DQ I.kB O (c.get m) k.at_ k.fn d h
def zY{y:V}{u:Value}{Q:Unit->Shared->Prop}(I:Inv X pins σ H s)(e:H a=some (.ins C dx fs))(c:mE X.K C)(n:fR X.K C f)(hl:fs.length<1000)(ry:RelV y u)
  (h:∀s',Inv X pins σ (upd H a (.ins C dx (bw f y fs))) s'->Q () s'):wpAny (model X.prog X.w) A (setAttr (.ref a) f u) Q E s:=by
 obtain⟨d,O,r,i,_,j⟩:=sI I.hok e;have k:(fs.map (·.1)).length<=sizeLine:=by rw[aaa,aaG];omega
 refine Ih I.kB O c.sa c.po n.Qw c.hd i k λl O' p=>h _ ?_;have B:∃o,l.get? dx=some o:=let ⟨o,_,_,e',_⟩:=O'.ns;⟨o,e'⟩;refine I.write (x:=a) (e:=dx) (by rw[e];exact True.intro) (.inr j) (λb q F z=>(p.2 b F).trans z) B ?_;refine⟨by rw[aC O.ne];exact j,?_,O.ne,O'.obj,_,O'.ns,λg=>?_,λg G=>?_⟩
 .have:=fV f y fs;omega
 .show lV ((bw f y fs).lookup g) (if g=f then some u else d g);rw[bx];by_cases q:g=f
  .rw[xC q,xC q];exact ry
  .rw[ZS q,ZS q];exact r g
 .by_cases q:g=f
  .rw[q];exact(nX f y fs).1
  .refine(nX f y fs).2 g (i g λz=>G ?_);show(if g=f then some u else d g)=none;rw[ZS q];exact z
def Inv.made(I:Inv X pins σ H s):Inv X pins σ (upd (upd H s.heap.objs.size (.own (s.heap.objs.size+1))) (s.heap.objs.size+1) (.ins C s.heap.objs.size []))
  { s with heap:=(s.heap.push PySem.W.emptyDict).push (PySem.W.instObj C s.heap.objs.size)}:=by
 have c:(s.heap.push PySem.W.emptyDict).get? s.heap.objs.size=some PySem.W.emptyDict:=Z1 s.heap rfl;have g:((s.heap.push PySem.W.emptyDict).push (PySem.W.instObj C s.heap.objs.size)).get? (s.heap.objs.size+1)=some (PySem.W.instObj C s.heap.objs.size):=by
  have:=Z1 (s.heap.push PySem.W.emptyDict) (o:=PySem.W.instObj C s.heap.objs.size) rfl
  rwa [aci]at this
 have h:(s.heap.push PySem.W.emptyDict).Ns s.heap.objs.size (λ_=>none):=⟨PySem.W.emptyDict,#[],_,c,rfl,(λe i=>absurd i (by simp)),λ_=>rfl⟩
 have I1:=I.laid (a:=s.heap.objs.size) (o:=.own (s.heap.objs.size+1)) (h':=s.heap.push PySem.W.emptyDict) (t':=s.toks) (λb u q=>ZK _ q) (ZO _) ⟨_,c⟩;refine I1.laid (a:=s.heap.objs.size+1) (o:=.ins C s.heap.objs.size []) (t':=s.toks) (λb u q=>ZK _ q) (Nat.le_of_eq (aci _ _)) ?_;have d:s.heap.objs.size≠s.heap.objs.size+1:=aad (aba _);refine⟨by rw[aC d,bz],aaz _,d,g,λ_=>none,(Heap.Ns1.of_empty h).at λo q=>ZK _ q,λ_=>True.intro,λy j=>absurd rfl j⟩
def Ii{prog:Program}{w:World}{env:Env}{e:Expr}{f:Str}{pos:Pos}{s:Shared}{Q:Value->Shared->Prop}(hb:attributeBase e f env (eval e env)=eval e env)
  (h:wpAny (model prog w) A (eval e env) (λo s₁=>wpAny (model prog w) A (getAttr o f true) Q E s₁) E s):wpAny (model prog w) A (eval (.Attribute e f pos) env) Q E s:=
 Attribute_any_ h (by rw[arm_eval_Attribute,hb])
end
noncomputable def Uo(K:PySem.W.Frag)(ta:TE)(f:Str):TE:=λσ H Q=>ta σ H λx H1=>∃a C dx fs v,x=.ref a/\H1 a=some (.ins C dx fs)/\mE K C/\fR K C f/\fs.lookup f=some v/\Q v H1
noncomputable def Up(K:PySem.W.Frag)(ta tv:TE)(f:Str):TS:=λD σ H=>tv σ H λy H1=>ta σ H1 λx H2=>∃a C dx fs,x=.ref a/\H2 a=some (.ins C dx fs)/\mE K C/\fR K C f/\fs.length<1000/\
 D.nx σ (upd H2 a (.ins C dx (bw f y fs)))
section
variable{X:Cx}{o e value:Expr}{f:Str}{pos pos':Pos}{ta tv:TE}
def qO(he:PE X e ta)(hb:attributeBase e f X.env (eval e X.env)=eval e X.env):PE X (.Attribute e f pos) (Uo X.K ta f):=by
 intro b s σ H Q I h;refine Ii hb (bH (he b s σ H _ I h) λu s1 ⟨x,H1,I1,d,a,C,j,fs,v,ex,g,c,n,l,q⟩=>?_);subst ex;obtain rfl:u=Value.ref a:=d;exact zX I1 g c n l λk s2 I2 i=>⟨v,H1,I2,i,q⟩
def nY(ha:PE X o ta)(hv:PE X value tv)(hs:swapsWith value (some (.Attribute o f pos')) pos.line X.env=pure false):PS X (.Assign [.Attribute o f pos'] value pos) (Up X.K ta tv f):=by
 intro b s σ H D I h;refine plainObj_wpAny_Assign_Attribute (bH (hv b s σ H _ I h) λu s1 ⟨y,H1,I1,d,q⟩=>bH (ha b s1 σ H1 _ I1 q) λg s2 ⟨x,H2,I2,i,a,C,p,fs,ex,j,c,n,l,k⟩=>?_) hs;subst ex;obtain rfl:g=Value.ref a:=i;exact zY I2 j c n l d λs3 I3=>⟨σ,_,I3,k⟩
end
structure eW(k:Nat)(A:Around):Prop where
 hd:A.handled=none
 dp:A.depth+3*k+5<recursionLimit
 un:A.units+16*k+200<cLine
theorem eW.deeper{k:Nat}{A:Around}(r:eW (k+1) A)(env:Env):eW k (A.deeper env):=
 ⟨r.hd,by have:=r.dp;show A.depth+1+3*k+5<_;omega,by have:=r.un;show A.units+3+16*k+200<_;omega⟩
def zZ {A:Around}{C:Addr}{us:List Value}{kw:List (Str×Value)}:(A.under (.builtin "type.__call__" ⟨.ref C :: us,kw⟩)).depth=A.depth+1:=by
 first|rfl|simp[Around.under,Code.weight,Code.isCreation,Code.isGuard,Code.isCaller,Code.frames,Code.isFrame,guardIds]
def z7 {A:Around}{C:Addr}{us:List Value}{kw:List (Str×Value)}:(A.under (.builtin "type.__call__" ⟨.ref C :: us,kw⟩)).units=A.units+1:=by
 first|rfl|simp[Around.under,Code.cUnits,Code.frames,Code.isFrame]
def eW.make {k:Nat}{A:Around}(r:eW (k+1) A) (C:Addr) (us:List Value) (kw:List (Str×Value)):eW k (A.under (.builtin "type.__call__" ⟨.ref C :: us,kw⟩)):=
 ⟨r.hd,by have:=r.dp;rw[zZ];omega,by have:=r.un;rw[z7];omega⟩
theorem eW.depth{k:Nat}{A:Around}(r:eW k A):A.depth<recursionLimit:=by have:=r.dp;omega
noncomputable def K9:TA:=λ_ H Q=>Q [] H
noncomputable def Qx(ta:TE)(tr:TA):TA:=λσ H Q=>ta σ H λx H1=>tr σ H1 λa H2=>Q (x :: a) H2
section
variable{X:Cx}{e:Expr}{es:List Expr}{te:TE}{t:TA}{pos:Pos}
def gk:PA X [] K9:=λ_ _ _ _ H Q I h=>Calls.spliced_nil ⟨[],H,I,.nil,h⟩
def gy(ha:PE X e te)(hr:PA X es t)(hs:starEach (e :: es) X.env=(false,eval e X.env) :: starEach es X.env:=by rfl):PA X (e :: es) (Qx te t):=by
 intro pos a s σ H Q I h;rw[hs];show wpAny _ _ (spliced ((false,eval e X.env) :: backTo pos (starEach es X.env))) _ _ s;refine Calls.spliced_cons (bH (ha a s σ H _ I h) λu s1 ⟨x,H1,I1,b,c⟩=>?_);exact bH (hr pos a s1 σ H1 _ I1 c) λi s2 ⟨d,H2,I2,f,g⟩=>⟨x :: d,H2,I2,.cons b f,g⟩
noncomputable def Uq(t:TA):TE:=λσ H Q=>t σ H λa H1=>a.length<=sizeLine/\∀p,H1 p=none->Q (.ref p) (upd H1 p (.tup a))
noncomputable def Ur(t:TA):TE:=λσ H Q=>t σ H λa H1=>a.length<=sizeLine/\∀p,H1 p=none->Q (.ref p) (upd H1 p (.lst a))
def La{x1}(h:PA X es t):PE X (.Tuple es x1 pos) (Uq t):=by
 intro a s σ H Q I hq;refine wpAny_Tuple_spliced (bH (h pos a s σ H _ I hq) λc s1 ⟨d,H1,I1,r,z,q⟩=>⟨by rw[<-r.length];exact z,?_⟩);have f:H1 s1.heap.objs.size=none:=I1.hok.fresh (ZO _);refine⟨.ref s1.heap.objs.size,upd H1 s1.heap.objs.size (.tup d),I1.laid (t':=s1.toks) (λb u e=>ZK _ e) (ZO _) ?_,rfl,q _ f⟩;exact⟨z,c,r,⟨_,Z1 _ rfl,rfl,_,rfl⟩⟩
def vp(h:PA X es t):PE X (.List es pos) (Ur t):=by
 intro a s σ H Q I hq;refine wpAny_List_spliced (bH (h pos a s σ H _ I hq) λc s1 ⟨d,H1,I1,r,z,q⟩=>⟨by rw[<-r.length];exact z,?_⟩);have f:H1 s1.heap.objs.size=none:=I1.hok.fresh (ZO _);refine⟨.ref s1.heap.objs.size,upd H1 s1.heap.objs.size (.lst d),I1.laid (t':=s1.toks) (λb u e=>ZK _ e) (ZO _) ?_,rfl,q _ f⟩;exact⟨z,c,0,r,Z1 _ rfl⟩
end
abbrev Sp:=List V->Hp->VK->XK->Prop
abbrev nM:=List Env->Hp->Shared->XK->Value->Shared->Prop
structure qq(P:Program)(w:World)(K:PySem.W.Frag)(mg:Str->Option Value)(base:Heap)(A:Around)(outer:List Env)(s:Shared)(H:Hp):Prop where
 frames:A.frames=some outer
 mod:Mod K mg base
 bs:∀b o,base.get? b=some o->s.heap.get? b=some o/\H b=none
 qK:base.objs.size<=s.heap.objs.size
 jc:s.heap.FunFrames base outer
 tV:∀b∈frs outer,H b=none
 hok:gc P w H s.heap
 bare:AllBare s.gens
def CE(outer:List Env)(P:Program)(w:World)(H:Hp)(s:Shared)(Q:VK)(u:Value)(s':Shared):Prop:=
 ∃v H',s'.os=s.os/\AllBare s'.gens/\Un (frs outer) [] H H' s.heap s'.heap/\gc P w H' s'.heap/\RelV v u/\Q v H'
def CR(CX:nM)(outer:List Env)(P:Program)(w:World)(H:Hp)(s:Shared)(Q:VK)(E:XK)(r:Result)(s':Shared):Prop:=
 match r with
 |.ok (.ret u)=>CE outer P w H s Q u s'
 |.ok _=>False
 |.error e=>CX outer H s E e s'
structure fB(P:Program)(w:World)(K:PySem.W.Frag)(mg:Str->Option Value)(base:Heap)(CX:nM)(k:Nat)(f:Addr)(fd:FuncData)(ps:List Str)(sp:Sp):Prop where
 len:∀vs H Q E,sp vs H Q E->vs.length=ps.length
 run:∀(A:Around) (outer:List Env) (s:Shared) (H:Hp) (args:Args) (us:List Value) (vs:List V) (Q:VK) (E:XK),eW k A->qq P w K mg base A outer s H->BindsTo s fd args (ps.zip us)->Vals vs us->sp vs H Q E->
  codeAny (model P w) A (.call (.ref f) args) (CR CX outer P w H s Q E) s
def qq.make{P:Program}{w:World}{K:PySem.W.Frag}{mg:Str->Option Value}{base:Heap}{A:Around}{outer:List Env}{s:Shared}{H:Hp}(e:qq P w K mg base A outer s H)(C:Addr)(us:List Value)(kw:List (Str×Value)) :
  qq P w K mg base (A.under (.builtin "type.__call__" ⟨.ref C :: us,kw⟩)) outer s H:=⟨by first|exact e.frames | (simpa[Around.under,Code.envs,Code.isFrame,pushEnvs]using e.frames),e.mod,e.bs,e.qK,e.jc,e.tV,e.hok,e.bare⟩
section
variable{X:Cx}{pins:List (Addr×Obj)}{σ:St}{H:Hp}{s s':Shared}
def Inv.Lb(I:Inv X pins σ H s):qq X.prog X.w X.K X.mg X.base X.A X.stack s H:=
 ⟨I.ok.frames,I.ok.mod,I.bs,Z2 I.ok.qK I.sz,I.stack,I.yg,I.hok,I.bare⟩
def Inv.after{Q:VK}{u:Value}(I:Inv X pins σ H s)(h:CE X.stack X.prog X.w H s Q u s'):EP X pins σ Q u s':=by
 obtain⟨v,H',f,a,un,c,r,q⟩:=h;obtain⟨i,g,d,t,e⟩:=s';obtain rfl:e=s.os:=f;exact⟨v,H',I.call (h':=i) (g':=g) (d':=d) (t':=t) (ch:=[]) un c a (λb z=>absurd z (by simp)),r,q⟩
end
noncomputable def Qy(sp:Sp)(eG:List V)(E:XK)(t:TA):TE:=λσ H Q=>t σ H λa H1=>sp (a++eG) H1 Q E
noncomputable def FQ(C:Addr)(m:Str)(sp:Sp)(eG:List V)(E:XK)(ta:TE)(t:TA):TE:=λσ H Q=>ta σ H λx H1=>∃a dx fs,x=.ref a/\H1 a=some (.ins C dx fs)/\fs.lookup m=none/\
 t σ H1 λb H2=>sp (x :: (b++eG)) H2 Q E
noncomputable def Qz(C:Addr)(sp:Sp)(eG:List V)(E:XK)(t:TA):TE:=λσ H Q=>t σ H λa H1=>∀x dx,H1 x=none->H1 dx=none->dx≠x->
 sp (.ref x :: (a++eG)) (upd (upd H1 dx (.own x)) x (.ins C dx [])) (λv H2=>v=.aV/\Q (.ref x) H2) E
def Binds(K:PySem.W.Frag)(fd:FuncData)(ps:List Str)(ds:List Value):Prop:=
 ∀(s:Shared) (us:List Value),K.In s.heap->(us++ds).length=ps.length->BindsTo s fd ⟨us,[]⟩ (ps.zip (us++ds))
def Binds.all{K:PySem.W.Frag}{fd:FuncData}{ps:List Str}(h:∀us:List Value,us.length=ps.length->bindArgs fd ⟨us,[]⟩=pure (ps.zip us)):Binds K fd ps []:=λs us _ a=>by
 rw[aaf]at a ⊢;exact .of_eq (h us a)
def Passes(CX:nM)(X:Cx)(E:XK):Prop:=∀(pins:List (Addr×Obj)) (σ:St) (H:Hp) (s:Shared) (e:Value) (s':Shared),Inv X pins σ H s->CX X.stack H s E e s'->X.xe e s'
section
variable{X:Cx}{CX:nM}{k:Nat}{f C:Addr}{fd:FuncData}{ps:List Str}{sp:Sp}{eG:List V}{ds:List Value}{E:XK}{x m:Str}{p pos apos:Pos}{e o:Expr}{es:List Expr}{ta:TE}{t:TA}
def vq{pins:List (Addr×Obj)}{σ:St}{H:Hp}{s:Shared}{Q:VK}{us:List Value}{vs:List V}(F:fB X.prog X.w X.K X.mg X.base CX k f fd ps sp)(hr:eW k X.A)(hb:Binds X.K fd ps ds)(hd:Vals eG ds)(hx:Passes CX X E)
  (I:Inv X pins σ H s) (r:Vals vs us) (h:sp (vs++eG) H Q E):wpAny (model X.prog X.w) X.A (call (.ref f) us) (EP X pins σ Q) X.xe s:=by
 have b:Vals (vs++eG) (us++ds):=r.append hd;have c:(us++ds).length=ps.length:=by rw[<-b.length];exact F.len _ _ _ _ h
 refine wpAny_call (abU (F.run X.A X.stack s H ⟨us,[]⟩ (us++ds) (vs++eG) Q E hr I.Lb (hb s us I.kB c) b h) λr d a=>?_);cases r with
 |error e=>exact hx pins σ H s e d I a
 |ok fl=>
  cases fl with
  |ret u=>exact I.after a
  |next=>exact False.elim a
  |brk=>exact False.elim a
  |cont=>exact False.elim a
def Ij(F:fB X.prog X.w X.K X.mg X.base CX k f fd ps sp)(hr:eW k X.A)(hg:Gl X x)(hm:X.mg x=some (.ref f))(hk:PySem.W.keepIn X.K (.ref f)=true)(hb:Binds X.K fd ps ds)(hd:Vals eG ds)(hx:Passes CX X E)
  (ha:PA X (e :: es) t) (hdb:(x==("__debug__" : Str))=false:=by decide) (he:starEach (e :: es) X.env=(false,eval e X.env) :: starEach es X.env:=by rfl) (hpl:(backTo pos (starEach es X.env)).any (·.1)=false:=by rfl) :
  PE X (.Call (.Name x p) (e :: es) [] pos) (Qy sp eG E t):=by
 intro a s σ H Q I h;refine aa6 (yi I hg hm ?_ hdb);refine abJ (h₀:=X.base) I.ok.mod.ye hk (bH (ha pos a s σ H _ I h) λb s1 ⟨c,H1,I1,r,q⟩=>⟨I1.kB,?_⟩) he hpl;exact vq F hr hb hd hx I1 r q
def Ik{pl:Sem Bool}(he:PE X o ta)(c:mE X.K C)(hm:Meth X.K C m f)(F:fB X.prog X.w X.K X.mg X.base CX k f fd ps sp)(hr:eW k X.A)(hb:Binds X.K fd ps ds)(hd:Vals eG ds)(hx:Passes CX X E)(ha:PA X (e :: es) t)
  (hst:starEach (e :: es) X.env=(false,eval e X.env) :: starEach es X.env:=by rfl) (hpl:(backTo pos (starEach es X.env)).any (·.1)=false:=by rfl)
  (ht:eval (.Call (.Attribute o m apos) (e :: es) [] pos) X.env=(do
   let ov <-eval o X.env
   standAt apos.atName
   let (f,first) <-holding [ov] (getMethod ov m pl)
   callWith pos f first (backTo pos (starEach (e :: es) X.env)) (backToKw pos (keywordEach [] X.env))):=by rfl) :
  PE X (.Call (.Attribute o m apos) (e :: es) [] pos) (FQ C m sp eG E ta t):=by
 intro b s σ H Q I h;refine acj (pl:=pl) (bH (he b s σ H _ I h) λu s1 ⟨x,H1,I1,d,a,j,fs,ex,g,l,q⟩=>?_) ht;subst ex;obtain rfl:u=Value.ref a:=d;refine qN I1 g c hm l ?_;refine abJ (first:=[.ref a]) (h₀:=X.base) I.ok.mod.ye hm.kp (bH (ha pos b s1 σ H1 _ I1 q) λus s2 ⟨vs,H2,I2,r,i⟩=>⟨I2.kB,?_⟩) hst hpl;exact vq (us:=.ref a :: us) (vs:=.ref a :: vs) F hr hb hd hx I2 (.cons rfl r) i
def DS{pl:Sem Bool}(he:PE X o ta)(c:mE X.K C)(hm:Meth X.K C m f)(F:fB X.prog X.w X.K X.mg X.base CX k f fd ps sp)(hr:eW k X.A)(hb:Binds X.K fd ps ds)(hd:Vals eG ds)(hx:Passes CX X E)
  (ht:eval (.Call (.Attribute o m apos) [] [] pos) X.env=(do
   let ov <-eval o X.env
   standAt apos.atName
   let (f,first) <-holding [ov] (getMethod ov m pl)
   callWith pos f first (backTo pos (starEach [] X.env)) (backToKw pos (keywordEach [] X.env))):=by rfl) :
  PE X (.Call (.Attribute o m apos) [] [] pos) (FQ C m sp eG E ta K9):=by
 intro b s σ H Q I h;refine acj (pl:=pl) (bH (he b s σ H _ I h) λu s1 ⟨x,H1,I1,d,a,i,fs,ex,g,l,q⟩=>?_) ht;subst ex;obtain rfl:u=Value.ref a:=d;refine qN I1 g c hm l ?_;exact PySem.W.callWith_K0 (first:=[.ref a]) I1.kB hm.kp (vq (us:=[.ref a]) (vs:=[.ref a]) F hr hb hd hx I1 (.cons rfl .nil) q)
structure Mk(K:PySem.W.Frag)(C f:Addr):Prop where
 makes:PySem.W.makesIn K C=true
 init:PySem.W.findIn K (.ref C) "__init__" = some (some (.ref f))
 fn:PySem.W.isFn K (.ref f)=true
 kp:PySem.W.keepIn K (.ref C)=true
def DT{pins:List (Addr×Obj)}{σ:St}{H:Hp}{s:Shared}{Q:VK}{us:List Value}{vs:List V}(M:Mk X.K C f)(F:fB X.prog X.w X.K X.mg X.base CX k f fd ps sp)(hr:eW (k+1) X.A)(hb:Binds X.K fd ps ds)(hd:Vals eG ds)
  (hx:Passes CX X E) (I:Inv X pins σ H s) (r:Vals vs us)
  (h:∀x dx,H x=none->H dx=none->dx≠x->sp (.ref x :: (vs++eG)) (upd (upd H dx (.own x)) x (.ins C dx [])) (λv H2=>v=.aV/\Q (.ref x) H2) E) :
  wpAny (model X.prog X.w) X.A (call (.ref C) us) (EP X pins σ Q) X.xe s:=by
 have b:=h (s.heap.objs.size+1) s.heap.objs.size (I.hok.fresh (acH _)) (I.hok.fresh (ZO _)) (aad (aba _));have I2:=Inv.made (C:=C) I;have c:Vals (V.ref (s.heap.objs.size+1) :: (vs++eG)) (Value.ref (s.heap.objs.size+1) :: (us++ds)):=.cons rfl (r.append hd);have d:(Value.ref (s.heap.objs.size+1) :: us++ds).length=ps.length:=by
  have e:=c.length;rw[F.len _ _ _ _ b]at e;exact e.symm
 refine wpAny_call (DR (f:=f) I.kB M.makes M.init (beq_iff_eq.mp M.fn) (abU (F.run _ X.stack _ _ ⟨Value.ref (s.heap.objs.size+1) :: us,[]⟩ (Value.ref (s.heap.objs.size+1) :: (us++ds)) _ _ E (hr.make C us [])
  (I2.Lb.make C us []) (hb _ (Value.ref (s.heap.objs.size+1) :: us) I2.kB d) c b) λr g a=>?_))
 cases r with
 |error e=>exact hx pins σ _ _ e g I2 a
 |ok fl=>
  cases fl with
  |ret u=>
   obtain⟨v,H',I3,rv,ev,i⟩:=I2.after a;subst ev;exact⟨rv,⟨V.ref (s.heap.objs.size+1),H',I3,rfl,i⟩⟩
  |next=>exact False.elim a
  |brk=>exact False.elim a
  |cont=>exact False.elim a
def yl(M:Mk X.K C f)(F:fB X.prog X.w X.K X.mg X.base CX k f fd ps sp)(hr:eW (k+1) X.A)(hg:Gl X x)(hm:X.mg x=some (.ref C))(hb:Binds X.K fd ps ds)(hd:Vals eG ds)(hx:Passes CX X E)
  (ha:PA X (e :: es) t) (hdb:(x==("__debug__" : Str))=false:=by decide) (he:starEach (e :: es) X.env=(false,eval e X.env) :: starEach es X.env:=by rfl) (hpl:(backTo pos (starEach es X.env)).any (·.1)=false:=by rfl) :
  PE X (.Call (.Name x p) (e :: es) [] pos) (Qz C sp eG E t):=by
 intro a s σ H Q I h;refine aa6 (yi I hg hm ?_ hdb);refine abJ (h₀:=X.base) I.ok.mod.ye M.kp (bH (ha pos a s σ H _ I h) λb s1 ⟨c,H1,I1,r,q⟩=>⟨I1.kB,?_⟩) he hpl;exact DT M F hr hb hd hx I1 r q
end
structure bg(N P:List Str)(sc:Scope):Prop where
 kind:sc.kind=.function
 co:sc.isCoroutine=false
 gen:sc.isGenerator=false
 nd:N.Nodup
 pre:N.take P.length=P
 par:∀x∈P,sc.names.lookup x=some .local\/sc.names.lookup x=some .cell
 Lc:∀y∈sc.names,y.2≠.free
theorem tZ{kindOf:Str->Option NameKind}{x:Str}:∀{binds:List (Str×Value)}{m:Str->Option Value},(∀v,(x,v)∉binds)->bindL kindOf binds m x=m x
 |[],_,_=>rfl
 | (n,v) :: r,m,h=>by
  unfold bindL;rw[tZ λw a=>h w (ZY _ a)];split
  .have:x≠n:=by rintro rfl;exact h v aai
   simp[this]
  .rfl
theorem t6{kindOf:Str->Option NameKind}{x:Str}:∀{binds:List (Str×Value)}{m:Str->Option Value},(∀v,(x,v)∉binds)->bindC kindOf binds m x=m x
 |[],_,_=>rfl
 | (n,v) :: r,m,h=>by
  unfold bindC;rw[t6 λw a=>h w (ZY _ a)];split
  .rfl
  .have:x≠n:=by rintro rfl;exact h v aai
   simp[this]
theorem t7{kindOf:Str->Option NameKind}{x:Str}{v:Value}:∀{P:List Str}{vs:List Value}{i:Nat}{m:Str->Option Value},P.Nodup->P[i]?=some x->vs[i]?=some v->kindOf x=some .local->
  bindL kindOf (P.zip vs) m x=some v
 |[],_,_,_,_,h,_,_=>by simp at h
 |_ :: _,[],_,_,_,_,h,_=>by simp at h
 |p :: P,w :: vs,0,m,nd,h1,h2,hk=>by
  simp at h1 h2;subst h1;subst h2;show bindL kindOf ((p,w) :: P.zip vs) m p=_;unfold bindL;rw[tZ λv a=>(List.nodup_cons.mp nd).1 (ab8 a).1,xC hk];simp
 |p :: P,w :: vs,i+1,m,nd,h1,h2,hk=>by
  show bindL kindOf ((p,w) :: P.zip vs) m x=_;unfold bindL;exact t7 (i:=i) (List.nodup_cons.mp nd).2 (by simpa using h1) (by simpa using h2) hk
theorem t8{kindOf:Str->Option NameKind}{x:Str}{v:Value}:∀{P:List Str}{vs:List Value}{i:Nat}{m:Str->Option Value},P.Nodup->P[i]?=some x->vs[i]?=some v->kindOf x≠some .local->
  bindC kindOf (P.zip vs) m x=some v
 |[],_,_,_,_,h,_,_=>by simp at h
 |_ :: _,[],_,_,_,_,h,_=>by simp at h
 |p :: P,w :: vs,0,m,nd,h1,h2,hk=>by
  simp at h1 h2;subst h1;subst h2;show bindC kindOf ((p,w) :: P.zip vs) m p=_;unfold bindC;rw[t6 λv a=>(List.nodup_cons.mp nd).1 (ab8 a).1,ZS hk];simp
 |p :: P,w :: vs,i+1,m,nd,h1,h2,hk=>by
  show bindC kindOf ((p,w) :: P.zip vs) m x=_;unfold bindC;exact t8 (i:=i) (List.nodup_cons.mp nd).2 (by simpa using h1) (by simpa using h2) hk
noncomputable def start(N:List Str)(vs:List V):St:=vs.map some++List.replicate (N.length - vs.length) none
noncomputable def qs(CX:nM)(P:Program)(w:World)(K:PySem.W.Frag)(mg:Str->Option Value)(base:Heap)(N:List Str)(qual:Str)(scope:Scope)(f:Addr)(cd:Value)(A:Around)(outer:List Env)(s:Shared)(H:Hp)(E:XK):Cx where
 prog:=P
 w:=w
 K:=K
 mg:=mg
 base:=base
 A:=A.deeper (envOfC qual scope s.heap.objs.size f cd)
 N:=N
 s₀:=s
 H₀:=H
 env:=envOfC qual scope s.heap.objs.size f cd
 outer:=outer
 stack:=envOfC qual scope s.heap.objs.size f cd :: outer
 ex:=[]
 calm:=true
 fn:=λ_=>true
 pn:=[]
 xe:=λe b=>wpAny (model P w) (A.deeper (envOfC qual scope s.heap.objs.size f cd)) (leaving (envOfC qual scope s.heap.objs.size f cd) e) (λ_ a=>CX outer H s E e a) (λc a=>CX outer H s E c a) b
def vt{sc:Scope}{n:Nat}{x:Str}(h:sc.names.lookup x=some .cell):∃c,(cellsFrom n sc.names []).lookup x=some c:=by
 have q:=ace sc.names n [] (.inl h);exact Option.isSome_iff_exists.mp q
def BB{CX:nM}{P:Program}{w:World}{K:PySem.W.Frag}{mg:Str->Option Value}{base:Heap}{N ps:List Str}{qual:Str}{scope:Scope}{f:Addr}{cd:Value}{A:Around}{outer:List Env}{s s1:Shared}{H:Hp}{E:XK}{us:List Value}{vs:List V}
  (S:bg N ps scope) (hd:A.handled=none) (e0:qq P w K mg base A outer s H) (hl:vs.length=ps.length) (r:Vals vs us)
  (x:InCallC s s.heap.objs.size (bindL (envOfC qual scope s.heap.objs.size f cd).kindOf (ps.zip us) λ_=>none) (cellsFrom (s.heap.objs.size+1) scope.names []) (bindC (envOfC qual scope s.heap.objs.size f cd).kindOf (ps.zip us) λ_=>none) s1) :
  Inv (qs CX P w K mg base N qual scope f cd A outer s H E) [] (start N vs) H s1:=by
 have F:ps.length<=N.length:=by have:=Z0 List.length S.pre;rw[aaZ]at this;omega
 obtain⟨l,tk,rfl,B⟩:=x.done;have BC:∀b:Addr,b∉(qs CX P w K mg base N qual scope f cd A outer s H E).ex:=λb z=>absurd (show b∈([]:List Addr)from z) (by simp);refine⟨⟨e0.mod,S.kind,rfl,rfl,ZO _,λy z c l d=>?_,λy g=>?_,λy c _ h=>?_,λ_=>hd,Around.frames_deeper e0.frames,.inr ⟨rfl,rfl⟩,λb z=>absurd z (BC b),e0.bs,e0.qK,λb _ _=>BC b,λb z=>absurd z (BC b),e0.jc,e0.tV⟩,
  rfl,e0.bare,Un.kept B,⟨_,x.toInCall.ns,λi y v l d I=>?_⟩,λy c h=>⟨_,x.cell y c h⟩,e0.hok.fresh (ZO _),λy c h=>?_,λp j=>absurd (show p∈([]:List (Addr×Obj))from j) (by simp),e0.hok.kept B,?_⟩
 .exact name_of_addr x.apart (aa0 l) (aa0 d)
 .have g:scope.names.lookup y=some .cell\/scope.names.lookup y=some .free:=g;rcases g with g|g
  .exact vt g
  .exact absurd rfl (S.Lc _ (aa0 g))
 .exact acE (x.above y c (aa0 h))
 .have o:i<vs.length:=by
   unfold start at d;by_cases o:i<vs.length
   .exact o
   .rw[Z5 (by simpa using o)]at d;rw[ab5]at d;split at d<;>cases d
  have G:vs[i]?=some v:=by
   unfold start at d;rw[gV (by simpa using o),Z7]at d;cases e:vs[i]? with
   |none=>rw[e]at d;cases d
   |some a=>rw[e]at d;cases d;rfl
  obtain⟨u,C,rv⟩:=r.get G;have j:ps[i]?=some y:=by
   rw[<-S.pre,List.getElem?_take_of_lt (by omega)];exact l
  have RH:ps.Nodup:=by rw[<-S.pre];exact S.nd.sublist (List.take_sublist _ _)
  refine⟨u,rv,?_⟩;rcases S.par y (ZM j)with k|k
  .exact .inl ⟨k,t7 RH j C k⟩
  .obtain⟨c,e⟩:=vt (n:=s.heap.objs.size+1) k;refine .inr ⟨.inl k,c,e,?_⟩;have q:=x.cell y c e;rw[t8 RH j C (by show scope.names.lookup y≠_;rw[k];decide)]at q;exact q
 .exact e0.hok.fresh (acE (x.above y c (aa0 h)))
 .unfold start;show _=N.length;rw[ZX,aaa,acq];omega
def QA{CX:nM}{P:Program}{w:World}{K:PySem.W.Frag}{mg:Str->Option Value}{base:Heap}{k:Nat}{f:Addr}{name qual:Str}{params:Arguments}{body:List Stmt}{scope:Scope}{dV kV doc pm cdv ct oc:Value}{an od:Option Addr}
  {osl:Array (Option Value)} {N ps:List Str} {sp:Sp} (lk:K.lookup f=some ⟨oc,od,.func (PySem.W.fnOf name qual params body scope dV kV doc pm an cdv ct),osl⟩) (hcd:PySem.W.codeIn K cdv qual=true) (S:bg N ps scope)
  (len:∀vs H Q E,sp vs H Q E->vs.length=ps.length)
  (hbody:∀(A:Around) (outer:List Env) (s:Shared) (H:Hp) (vs:List V) (Q:VK) (E:XK),eW k (A.deeper (envOfC qual scope s.heap.objs.size f cdv))->sp vs H Q E->
   ∃t,gf (qs CX P w K mg base N qual scope f cdv A outer s H E) body t/\t { nx:=λ_ H'=>Q .aV H',rt:=Q } (start N vs) H) :
  fB P w K mg base CX (k+1) f (PySem.W.fnOf name qual params body scope dV kV doc pm an cdv ct) ps sp:=by
 refine⟨len,λA outer s H args p vs Q E h d z r l=>?_⟩;have B:=len _ _ _ _ l;have KX:K.In s.heap:=d.mod.ye.keeps λb o e=>(d.bs b o e).1;have i:s.heap.NoLimit:=d.mod.nolimit.keeps λb o e=>(d.bs b o e).1;have a:∀y∈ps.zip p,scope.names.lookup y.1=some .local\/(scope.names.lookup y.1=some .cell/\((cellsFrom (s.heap.objs.size+1) scope.names []).lookup y.1).isSome=true):=λ⟨n,v⟩ C=>by
  rcases S.par n (ab8 C).1 with q|q
  .exact .inl q
  .exact .inr ⟨q,ace _ _ _ (.inl q)⟩
 refine codeAny_call_function h.depth (KX _ _ lk) rfl S.co S.gen rfl (PySem.W.codeRec_of KX hcd) (z _ _ _ _ ?_);refine wpAny_newFunctionEnv_cells S.kind a λF G s1 x=>?_;subst G;refine⟨i.keeps x.toInCall.keep,codeAny_func ?_⟩;obtain⟨t,L,M⟩:=hbody A outer s H vs Q E (h.deeper _) l;have I:Inv (qs CX P w K mg base N qual scope f cdv A outer s H E) [] (start N vs) H s1:=BB S h.hd d B r x;refine aaW (L [] s1 (start N vs) H _ I M) (λfl j c=>?_) λe j c=>c;have fin:∀{g:St} {H':Hp} {v:V} {u:Value},Inv (qs CX P w K mg base N qual scope f cdv A outer s H E) [] g H' j->RelV v u->Q v H'->CE outer P w H s Q u j:=
  λ{g H' v u} J rv q=>⟨v,H',J.os,J.bare,J.base,J.hok,rv,q⟩
 cases fl with
 |ret u=>
  obtain⟨v,g,H',J,rv,q⟩:=c;exact fin J rv q
 |next=>
  obtain⟨g,H',J,q⟩:=c;exact fin (v:=V.aV) (u:=Value.none) J rfl q
 |brk=>
  obtain⟨_,_,_,q⟩:=c;exact False.elim q
 |cont=>
  obtain⟨_,_,_,q⟩:=c;exact False.elim q
section
variable{X:Cx}{x:Str}{p pos:Pos}{e:Expr}{es:List Expr}{t:TA}{id T:String}{r:List V->Hp->VK->Prop}
noncomputable def Ld(r:List V->Hp->VK->Prop)(t:TA):TE:=λσ H Q=>t σ H λa H1=>r a H1 Q
def vv (hc:gx X (.builtin id) r) (hg:Gl X x) (hm:X.mg x=none) (hv:bootBuiltins x=some (.builtin id)) (ha:PA X (e :: es) t) (hn:x≠"__name__" :=by decide) (hdb:(x==("__debug__" : Str))=false:=by decide)
  (he:starEach (e :: es) X.env=(false,eval e X.env) :: starEach es X.env:=by rfl) (hpl:(backTo pos (starEach es X.env)).any (·.1)=false:=by rfl):PE X (.Call (.Name x p) (e :: es) [] pos) (Ld r t):=by
 intro a s σ H Q I h;refine aa6 (kC I hg hm hv ?_ hn hdb);exact PyProof.Rows.callWith_builtin1 (bH (ha pos a s σ H _ I h) λb s1 ⟨c,H1,I1,d,f⟩=>hc a s1 σ H1 c b Q I1 d f) he hpl
def ly (hc:gx X (.type T) r) (hg:Gl X x) (hm:X.mg x=none) (hv:bootBuiltins x=some (.type T)) (ha:PA X (e :: es) t) (hn:x≠"__name__" :=by decide) (hdb:(x==("__debug__" : Str))=false:=by decide)
  (he:starEach (e :: es) X.env=(false,eval e X.env) :: starEach es X.env:=by rfl) (hpl:(backTo pos (starEach es X.env)).any (·.1)=false:=by rfl):PE X (.Call (.Name x p) (e :: es) [] pos) (Ld r t):=by
 intro a s σ H Q I h;refine aa6 (kC I hg hm hv ?_ hn hdb);exact aao (bH (ha pos a s σ H _ I h) λb s1 ⟨c,H1,I1,d,f⟩=>hc a s1 σ H1 c b Q I1 d f) he hpl
end
end L2
namespace HT
open PySem PyProof.Rows
section
variable{prog:Program}{w:World}{A:Around}{E:Value->Shared->Prop}{s:Shared}
def Il{t b:Addr}{vs ws:List Value}{Q:Value->Shared->Prop}(ht:IsTup s.heap t vs.toArray)(hb:IsTup s.heap b ws.toArray)(hv:vs≠[])
  (h1:ws=[]->Q (.ref t) s) (h2:ws≠[]->Q (.ref s.heap.objs.size) { s with heap:=s.heap.push { cls:=.type "tuple",data:=.seq (vs++ws).toArray }})
  (hsz:vs.length+ws.length<=sizeLine):wpAny (model prog w) A (binaryOp .Add (.ref t) (.ref b)) Q E s:=by
 obtain⟨⟨cls,k,data,l⟩,h,o,n,p⟩:=id ht;obtain⟨⟨Us,c,j,d⟩,a,f,n2,g⟩:=id hb;simp only at o p f g;subst o p f g;have e:vs.toArray++ws.toArray=(vs++ws).toArray:=by simp
 by_cases i:ws=[]
 .exact concat_meets ⟨_,h,rfl⟩ ⟨_,a,rfl⟩ abY seq_tuple_add aby abr (abn _ _)
   (tuple_addW1 t b vs.toArray ws.toArray n n2 k c l d (by simpa using hv) (by simp[i])) ⟨h,a,h1 i⟩
 .refine concat_meets ⟨_,h,rfl⟩ ⟨_,a,rfl⟩ abY seq_tuple_add aby abr (abn _ _)
   (tuple_addW2 t b vs.toArray ws.toArray n n2 k c l d (by simpa using hv) (by simpa using i) (by rw[ZL,ZL];exact hsz)) ⟨h,a,?_⟩
  rw[e];exact h2 i
noncomputable def aT(n d:Nat):Option Int->Nat
 |none=>d
 |some v=>if v<0 then (v+(n:Int)).toNat else min v.toNat n
def vz(n d:Nat)(hd:d<=n)(o:Option Int):aT n d o<=n:=by
 cases o with
 |none=>exact hd
 |some v=>
  show(if v<0 then (v+(n:Int)).toNat else min v.toNat n)<=n;by_cases a:v<0
  .rw[xC a];omega
  .rw[ZS a];exact Nat.min_le_right _ _
def ym(v:Int)(n d:Nat):(if v<0 then max (v+(n:Int)) 0 else min v (n:Int))=((aT n d (some v):Nat):Int):=by
 show(if v<0 then max (v+(n:Int)) 0 else min v (n:Int))=(((if v<0 then (v+(n:Int)).toNat else min v.toNat n):Nat):Int)
 by_cases a:v<0
 .simp only[xC a];omega
 .simp only[ZS a];omega
def z8(lo hi:Option Int)(n:Nat):Builtin.Slice.sliceAdjust lo hi 1 (n:Int)=(((aT n 0 lo:Nat):Int),((aT n n hi:Nat):Int)):=by
 have a:¬ ((1:Int)<0):=by omega
 unfold Builtin.Slice.sliceAdjust;simp only[a,aaH];refine Prod.ext ?_ ?_
 .cases lo with
  |none=>rfl
  |some v=>exact ym v n 0
 .cases hi with
  |none=>rfl
  |some v=>exact ym v n n
def z9(i j:Nat):Builtin.Slice.slicePlaces (i:Int) (j:Int) 1=j - i:=by
 unfold Builtin.Slice.slicePlaces;have a:(1:Int) > 0:=by omega
 simp only[a,Z4,Int.ediv_one];split<;>omega
def qP{v:Value}{o:Option Int}{Q:Option Int->Shared->Prop}(p:IsPart v o)(h:Q o s):wpAny (model prog w) A (Builtin.Slice.slicePartIndex v) Q E s:=by
 cases p with
 |none=>exact slicePart_none h
 |int i t=>exact slicePart_int h
def kD{sl:Addr}{vl vu:Value}{lo hi:Option Int}{n:Nat}{Q:Int×Int×Nat->Shared->Prop}(hs:s.heap.IsSliceOf sl vl vu .none)(pl:IsPart vl lo)(pu:IsPart vu hi)
  (h:Q (((aT n 0 lo:Nat):Int),1,aT n n hi - aT n 0 lo) s):wpAny (model prog w) A (Builtin.Slice.sliceApplied (.ref sl) (pure (n:Int))) Q E s:=by
 obtain⟨d,a,c,b⟩:=id hs;unfold Builtin.Slice.sliceApplied Builtin.Slice.sliceFields;refine gv (gv (aaM a b (x:=vl) rfl (gv (aaM a b (x:=vu) rfl (gv (aaM a b (x:=.none) rfl (ZR ?_)))))));refine gv (slicePart_none ?_);show wpAny _ _ (if ((1:Int)==0)=true then _ else _) _ _ s;rw[ZS (by decide)];refine gv (qP pl (gv (qP pu (gv (ZR ?_)))));show wpAny _ _ (match Builtin.Slice.sliceAdjust lo hi 1 (n:Int)with | (lo,hi)=>pure (lo,(1:Int),Builtin.Slice.slicePlaces lo hi 1)) _ _ s;rw[z8 lo hi n];show wpAny _ _ (pure (((aT n 0 lo:Nat):Int),(1:Int),Builtin.Slice.slicePlaces ((aT n 0 lo:Nat):Int) ((aT n n hi:Nat):Int) 1)) _ _ s;rw[z9];exact ZR h
def DU(xs:Array Value)(i k:Nat):((List.range k).filterMap λ(m:Nat)=>xs[((i:Int)+(m:Int)*1).toNat]?).toArray=((xs.toList.drop i).take k).toArray:=by
 have e:(λ(m:Nat)=>xs[((i:Int)+(m:Int)*1).toNat]?)=λm=>xs[i+m]?:=by
  funext m
  have:((i:Int)+(m:Int)*1).toNat=i+m:=by omega
  rw[this]
 rw[e];have:=pick_run xs i k;rw[List.filterMap_map]at this;have a:((λx=>xs[x]?) ∘ λx=>i+x)=λm=>xs[i+m]?:=rfl;rw[a]at this;rw[this]
def pU{t sl:Addr}{items:Array Value}{vl vu:Value}{lo hi:Option Int}{Q:Value->Shared->Prop}(ht:IsTup s.heap t items)(hs:s.heap.IsSliceOf sl vl vu .none)(pl:IsPart vl lo)(pu:IsPart vu hi)
  (hw:¬ (aT items.size 0 lo=0/\aT items.size items.size hi=items.size))
  (h:Q (.ref s.heap.objs.size) { s with heap:=s.heap.push { cls:=.type "tuple",data:=.seq ((items.toList.drop (aT items.size 0 lo)).take (aT items.size items.size hi - aT items.size 0 lo)).toArray }})
  (hsz:items.size<=sizeLine):wpAny (model prog w) A (getItem (.ref t) (.ref sl)) Q E s:=by
 have a:sizeOk (.seq ((items.toList.drop (aT items.size 0 lo)).take (aT items.size items.size hi - aT items.size 0 lo)).toArray):=by
  show((items.toList.drop (aT items.size 0 lo)).take (aT items.size items.size hi - aT items.size 0 lo)).toArray.size<=sizeLine;rw[ZL,aaZ,abb,abd];omega
 have g:aT items.size items.size hi<=items.size:=vz _ _ (ZO _) hi;obtain⟨e,b,c,f⟩:=id hs;have Le:s.TypeIs (.ref sl) "slice" :=⟨e,b,c⟩
 unfold getItem;try with_reducible refine wpAny_holding ?_
 first|refine gv (ZR ?_)|skip
 refine gv (wpAny_sequenceKey ht.typeIs (by decide) ?_);refine gv (aa3 (name:=Str.ofString "__getitem__") ht.typeIs aaF
  (aaY aaF ht.typeIs entry_tuple_getitem ?_ (args_tuple_getitem _ _)))
 show wpAny _ _ (Builtin.Tuple.tupleItemsOf (.ref t) >>= _) _ _ s;refine gv (tupleItemsOf_ ht ?_);refine gv (abT Le ?_);rw[xC (by decide)];refine gv (kD hs pl pu ?_);have d:¬ ((((aT items.size 0 lo:Nat):Int)==0&&(1:Int)==1&&(aT items.size items.size hi - aT items.size 0 lo)==items.size)=true):=by
  intro q;rw[ZJ,ZJ]at q;have i:((aT items.size 0 lo:Nat):Int)=0:=eq_of_beq q.1.1;have j:aT items.size items.size hi - aT items.size 0 lo=items.size:=eq_of_beq q.2;exact hw ⟨by omega,by omega⟩
 show wpAny _ _ (if (((aT items.size 0 lo:Nat):Int)==0&&(1:Int)==1&&(aT items.size items.size hi - aT items.size 0 lo)==items.size)=true then _ else _) _ _ s;rw[ZS d,DU];first
  |exact gv (m:=Builtin.Tuple.tupleExact _) (aax (ZR ⟨_,rfl,ZR h⟩) a)
  |exact gv (m:=Builtin.Tuple.tupleExact _) (aax (gv (ZR (ZR ⟨_,rfl,ZR h⟩))) a)
  |exact gv (gv (m:=Builtin.Tuple.tupleExact _) (aax (ZR (ZR ⟨_,rfl,ZR h⟩)) a))
  |exact gv (gv (m:=Builtin.Tuple.tupleExact _) (aax (ZR ⟨_,rfl,ZR h⟩) a))
end
end HT
namespace L2
open PySem PySem.Spec PyProof.Rows
abbrev TO:=St->Hp->(Option Int->Hp->Prop)->Prop
def PO(X:Cx)(e:Option Expr)(t:TO):Prop:=
 ∀(pins:List (Addr×Obj)) (s:Shared) (σ:St) (H:Hp) (Q:Option Int->Hp->Prop),Inv X pins σ H s->t σ H Q->
  wpAny (model X.prog X.w) X.A (evalPart e X.env) (λu a=>∃o H',Inv X pins σ H' a/\IsPart u o/\Q o H') X.xe s
noncomputable def Im:TO:=λ_ H Q=>Q none H
noncomputable def QB(t:TE):TO:=λσ H Q=>t σ H λx H1=>∃i,x=.int i/\Q (some i) H1
section
variable{X:Cx}{e:Expr}{te:TE}{lo hi:Option Expr}{tl th:TO}{pos p2:Pos}
def Io:PO X none Im:=by
 intro a s σ H Q I h;rw[evalPart_none];exact ZR ⟨none,H,I,.none,h⟩
def Ip(h:PE X e te):PO X (some e) (QB te):=by
 intro a s σ H Q I hw;rw[evalPart_some];refine bH (h a s σ H _ I hw) λu s1 ⟨x,H1,I1,b,c⟩=>?_;obtain⟨i,rfl,q⟩:=c;obtain⟨t,rfl⟩:=b;exact⟨some i,H1,I1,.int i t,q⟩
def lz(X:Cx)(r:V->Option Int->Option Int->Hp->VK->Prop):Prop:=
 ∀(pins:List (Addr×Obj)) (s:Shared) (σ:St) (H:Hp) (x:V) (v vl vu:Value) (lo hi:Option Int) (sl:Addr) (Q:VK),Inv X pins σ H s->RelV x v->s.heap.IsSliceOf sl vl vu .none->IsPart vl lo->IsPart vu hi->r x lo hi H Q->
  ∃T id,typeLookup (.type T) "__getitem__" = pure (some (.builtin id))/\s.TypeIs v T/\wpAny (model X.prog X.w) X.A (getItem v (.ref sl)) (EP X pins σ Q) X.xe s
noncomputable def VI(r:V->Option Int->Option Int->Hp->VK->Prop)(te:TE)(tl th:TO):TE:=λσ H Q=>te σ H λx H1=>tl σ H1 λl H2=>th σ H2 λu H3=>r x l u H3 Q
def DV{r:V->Option Int->Option Int->Hp->VK->Prop}(hr:lz X r)(he:PE X e te)(hl:PO X lo tl)(hu:PO X hi th):PE X (.Subscript e (.Slice lo hi none p2) pos) (VI r te tl th):=by
 intro a s σ H Q I h;refine Subscript_ (bH (he a s σ H _ I h) λv s1 ⟨x,H1,I1,f,g⟩=>?_);refine wpAny_Slice (bH (hl a s1 σ H1 _ I1 g) λc s2 ⟨l,H2,I2,i,j⟩=>bH (hu a s2 σ H2 _ I2 j) λd s3 ⟨u,H3,I3,k,o⟩=>?_);rw[evalPart_none];refine ZR ?_;have I4:Inv X a σ H3 { s3 with heap:=s3.heap.push { cls:=.type "slice",data:=.fields #[c,d,.none]}}:=I3.kept (t':=s3.toks) λb B q=>ZK _ q;obtain⟨T,id,p,y,z⟩:=hr a { s3 with heap:=s3.heap.push { cls:=.type "slice",data:=.fields #[c,d,.none]}} σ H3 x v c d l u s3.heap.objs.size Q I4 f (Heap.IsSliceOf.new ..) i k o;show wpAny (model X.prog X.w) X.A (subscriptTail e (.Slice lo hi none p2) v (.ref s3.heap.objs.size)) (EP X a σ Q) X.xe { s3 with heap:=s3.heap.push { cls:=.type "slice",data:=.fields #[c,d,.none]}};exact tail_any (ops:=[.ref s3.heap.objs.size,v]) y p z (by with_unfolding_all rfl)
noncomputable def nZ(xs:List V)(lo hi:Option Int):List V:=(xs.drop (HT.aT xs.length 0 lo)).take (HT.aT xs.length xs.length hi - HT.aT xs.length 0 lo)
def pX(xs:List V)(lo hi:Option Int):(nZ xs lo hi).length<=xs.length:=by
 unfold nZ;rw[aaZ,abb];omega
def Ut(K:PySem.W.Frag):V->Option Int->Option Int->Hp->VK->Prop:=λx lo hi H Q=>∃a xs,x=.ref a/\cU K H a xs/\
 ¬ (HT.aT xs.length 0 lo=0/\HT.aT xs.length xs.length hi=xs.length)/\∀p,H p=none->Q (.ref p) (upd H p (.tup (nZ xs lo hi)))
def Lf:lz X (Ut X.K):=by
 intro g s σ H x v vl vu lo hi sl Q I rx hs pl pu h;obtain⟨a,d,rfl,k,l,q⟩:=h;cases rx;obtain⟨f,r,i,j⟩:=I.tuple k;have c:f.toArray.size=d.length:=by rw[ZL];exact r.length.symm
 refine⟨"tuple",_,PyProof.Rows.slot_tuple_getitem.lookup,i.typeIs,?_⟩;refine HT.pU i hs pl pu (by rw[c];exact l) ?_ (by rw[c];exact j);rw[c];refine⟨.ref s.heap.objs.size,_,I.laid (t':=s.toks) (o:=.tup (nZ d lo hi)) (λb p q=>ZK _ q) (ZO _) ?_,rfl,q _ (I.hok.fresh (ZO _))⟩;exact⟨Z2 (pX d lo hi) j,_,(r.drop (HT.aT d.length 0 lo)).take (HT.aT d.length d.length hi - HT.aT d.length 0 lo),IsTup.new _ _⟩
noncomputable def QC(K:PySem.W.Frag):R2:=λx y H Q=>∃a b xs ys,x=.ref a/\y=.ref b/\cU K H a xs/\cU K H b ys/\xs≠[]/\xs.length+ys.length<=sizeLine/\
 (ys=[]->Q (.ref a) H)/\(ys≠[]->∀p,H p=none->Q (.ref p) (upd H p (.tup (xs++ys))))
def Vals.sJ{xs:List V}{us:List Value}(r:Vals xs us):us=[]↔xs=[]:=by
 cases r with
 |nil=>simp
 |cons _ _=>simp
def Iq:eF X (binaryOp .Add) (QC X.K):=by
 intro f s σ H x y v u Q I rx ry h;obtain⟨a,b,j,k,rfl,rfl,l,p,r,g,A,B⟩:=h;cases rx;cases ry;obtain⟨C,d,F,_⟩:=I.tuple l;obtain⟨i,c,p2,_⟩:=I.tuple p;refine HT.Il F p2 (λz=>r (d.sJ.mp z)) (λz=>⟨.ref a,H,I,rfl,A (c.sJ.mp z)⟩) (λz=>?_) (by rw[<-d.length,<-c.length];exact g);refine⟨.ref s.heap.objs.size,_,I.laid (t':=s.toks) (o:=.tup (j++k)) (λb G q=>ZK _ q) (ZO _) ?_,rfl,B (λw=>z (c.sJ.mpr w)) _ (I.hok.fresh (ZO _))⟩;exact⟨by rw[ZX];exact g,_,d.append c,IsTup.new _ _⟩
end
noncomputable def eK(n:Nat)(i:Int):Option Nat:=if 0<=i then (if i<n then some i.toNat else none)else if -(n:Int)<=i then some (i+n).toNat else none
noncomputable def bE{α:Type}(xs:List α)(i:Int):Option α:=(eK xs.length i).bind λj=>xs[j]?
def Ir{n:Nat}{i:Int}{j:Nat}(h:eK n i=some j):seqIndex? i n=some j/\j<n/\-(n:Int)<=i/\i<n:=by
 unfold eK at h;by_cases b:0<=i
 .rw[xC b]at h;by_cases a:i<n
  .rw[xC a]at h;have e:i.toNat=j:=Vb h;exact⟨by rw[seqIndex_of b a,e],by omega,by omega,a⟩
  .rw[ZS a]at h;cases h
 .rw[ZS b]at h;by_cases a:-(n:Int)<=i
  .rw[xC a]at h;have e:(i+n).toNat=j:=Vb h;exact⟨by rw[seqIndex_neg (by omega) a,e],by omega,a,by omega⟩
  .rw[ZS a]at h;cases h
def sL{α:Type}{xs:List α}{i:Int}{v:α}(h:bE xs i=some v):∃j,seqIndex? i xs.length=some j/\xs[j]?=some v/\j<xs.length/\-(xs.length:Int)<=i/\i<xs.length:=by
 unfold bE at h;cases e:eK xs.length i with
 |none=>rw[e]at h;cases h
 |some j=>
  rw[e]at h;obtain⟨a,b,c,d⟩:=Ir e;exact⟨j,a,h,b,c,d⟩
def o9{α:Type}{xs:List α}{j:Nat}{v:α}(h:xs[j]?=some v):bE xs (j:Int)=some v:=by
 have a:j<xs.length:=(List.getElem?_eq_some_iff.mp h).1;have e:eK xs.length (j:Int)=some j:=by
  unfold eK;rw[xC (by omega),xC (by omega)];simp
 unfold bE;rw[e];exact h
def sM(b:Expr):Prop:=∀o i,subscripted b false o i=operate [o,i] (getItem o i)
def yo(X:Cx)(r:R2):Prop:=
 ∀(value slice:Expr) (pins:List (Addr×Obj)) (s:Shared) (σ:St) (H:Hp) (x y:V) (v u:Value) (Q:VK),Inv X pins σ H s->RelV x v->RelV y u->r x y H Q->
  subscripted slice false v u=operate [v,u] (getItem v u)->wpAny (model X.prog X.w) X.A (subscriptTail value slice v u) (EP X pins σ Q) X.xe s
def t9(X:Cx)(id:String)(r:V->List V->Hp->VK->Prop):Prop:=
 ∀(pins:List (Addr×Obj)) (s:Shared) (σ:St) (H:Hp) (x:V) (xs:List V) (v:Value) (us:List Value) (Q:VK),Inv X pins σ H s->RelV x v->Vals xs us->r x xs H Q->
  wpAny (model X.prog X.w) X.A (call (.builtin id) (v :: us)) (EP X pins σ Q) X.xe s
section
variable{X:Cx}{a b:Expr}{ta tb:TE}{pos:Pos}
def FT{r:R2}(hr:yo X r)(ha:PE X a ta)(hb:PE X b tb)(hs:sM b):PE X (.Subscript a b pos) (Bv r ta tb):=by
 intro c s σ H Q I h;exact Subscript_ (DN ha hb I h λv u s2 x y H2 I2 d e q=>hr a b c s2 σ H2 x y v u Q I2 d e q (hs _ _))
noncomputable def Uu(K:PySem.W.Frag):R2:=λx y H Q=>∃p xs i v,x=.ref p/\y=.int i/\fz K H p xs/\bE xs i=some v/\Q v H
noncomputable def Uv(K:PySem.W.Frag):R2:=λx y H Q=>∃p xs i v,x=.ref p/\y=.int i/\cU K H p xs/\bE xs i=some v/\Q v H
noncomputable def Uw:R2:=λx y H Q=>∃z i c,x=.str z/\y=.int i/\z.length<=sizeLine/\bE z.cps.toList i=some c/\Q (.str ⟨#[c]⟩) H
def yp:yo X (Uu X.K):=by
 intro value e c s σ H x y v u Q I rx ry h hs;obtain⟨p,N,i,z,rfl,rfl,B,C,q⟩:=h;cases rx;obtain⟨t,rfl⟩:=ry;obtain⟨f,r,g,P⟩:=I.list B;obtain⟨j,d,F,W,G,J⟩:=sL C;obtain⟨w,o,k⟩:=r.get F;have L:=r.length;have Y:=mD;have fin:EP X c σ Q w s:=⟨z,H,I,k,q⟩
 by_cases A:0<=i
 .have l:i.toNat=j:=by
   rw[seqIndex_of A J]at d;exact Vb d
  exact item_listR g.isList A (by omega) (by rw[l];simpa using o) fin hs
 .have l:(i+(f.toArray.size:Int)).toNat=j:=by
   rw[seqIndex_neg (by omega) G]at d;rw[ZL,<-L];exact Vb d
  exact subscriptTail_builtinR (x:=w) g.isList.typeIs slot_list_getitem.lookup
   (wpAny_getItem_list_neg (Q:=λr M=>r=w/\EP X c σ Q r M) g.isList (by omega) (by rw[ZL]<;>omega) (by omega) (by rw[l];simpa using o) ⟨rfl,fin⟩) hs
def Lh:yo X (Uv X.K):=by
 intro value d c s σ H x y v u Q I rx ry h hs;obtain⟨p,G,i,z,rfl,rfl,g,k,q⟩:=h;cases rx;obtain⟨t,rfl⟩:=ry;obtain⟨l,r,f,J⟩:=I.tuple g;obtain⟨j,o,A,L,M,N⟩:=sL k;obtain⟨w,B,e⟩:=r.get A;have C:=r.length;have P:=mD;have fin:EP X c σ Q w s:=⟨z,H,I,e,q⟩
 exact subscriptTail_builtinR (x:=w) f.typeIs slot_tuple_getitem.lookup
  (getItem_tuple (j:=j) (Q:=λr F=>r=w/\EP X c σ Q r F) f (by omega) (by omega) (by rw[ZL,<-C];exact o) (by simpa using B) ⟨rfl,fin⟩) hs
def Li:yo X Uw:=by
 intro value d e s σ H x y v u Q I rx ry h hs;obtain⟨z,i,c,rfl,rfl,B,g,q⟩:=h;obtain⟨t,rfl⟩:=rx;obtain⟨C,rfl⟩:=ry;obtain⟨j,f,k,F,l,o⟩:=sL g;have p:z.cps.toList.length=z.length:=by simp[Str.length]
 rw[p]at f l o;have G:=mD;exact tail_any (typeIs_str s z t) slot_str_getitem.lookup (getItem_str (c:=c) (by
  have r:decide (i < -(2 ^ 63:Int))=false:=Z6 (by omega);have A:decide (i≥2 ^ 63)=false:=Z6 (by omega);rw[r,A,Bool.or_false]) (by rw[f];simpa using k) ⟨.str ⟨#[c]⟩,H,I.tok _,⟨_,rfl⟩,q⟩) hs
def vA(lo hi:Option Int)(n:Nat):(sliceBounds lo hi none n).1=((HT.aT n 0 lo:Nat):Int)/\(sliceBounds lo hi none n).2.1=((HT.aT n n hi:Nat):Int)/\(sliceBounds lo hi none n).2.2=1:=by
 refine⟨?_,?_,rfl⟩
 .cases lo with
  |none=>simp[sliceBounds,HT.aT]
  |some i=>
   simp only[sliceBounds,HT.aT,Option.getD_none,show(1:Int) > 0 by decide,Z4];by_cases h:i<0
   .simp only[h,Z4]<;>omega
   .simp only[h,aaH]<;>omega
 .cases hi with
  |none=>simp[sliceBounds,HT.aT]
  |some i=>
   simp only[sliceBounds,HT.aT,Option.getD_none,show(1:Int) > 0 by decide,Z4];by_cases h:i<0
   .simp only[h,Z4]<;>omega
   .simp only[h,aaH]<;>omega
def uN(its:List Value)(lo hi:Option Int):slicePick its.toArray lo hi none=((its.drop (HT.aT its.length 0 lo)).take (HT.aT its.length its.length hi - HT.aT its.length 0 lo)).toArray:=by
 obtain⟨c,d,e⟩:=vA lo hi its.toArray.size;unfold slicePick;rw[c,d,e];simp only[sliceRange_one,pick_run,ZL]<;>rfl
def Ux(K:PySem.W.Frag):V->Option Int->Option Int->Hp->VK->Prop:=λx c d H Q=>∃a xs,x=.ref a/\fz K H a xs/\∀p,H p=none->Q (.ref p) (upd H p (.lst (nZ xs c d)))
def Iu:lz X (Ux X.K):=by
 intro e s σ H x v vl vu lo hi sl Q I rx hs pl pu h;obtain⟨a,c,rfl,g,q⟩:=h;cases rx;obtain⟨i,r,f,j⟩:=I.list g;have d:=r.length;refine⟨"list",_,slot_list_getitem.lookup,f.isList.typeIs,?_⟩;refine wpAny_getItem_list_slice f.isList hs pl pu .none (by simp) ?_ (by rw[ZL]<;>omega);rw[uN,<-d];refine⟨.ref s.heap.objs.size,_,I.laid (t':=s.toks) (o:=.lst (nZ c lo hi)) (λb k q=>ZK _ q) (ZO _) ?_,rfl,q _ (I.hok.fresh (ZO _))⟩;exact⟨Z2 (pX c lo hi) j,_,0,(r.drop (HT.aT c.length 0 lo)).take (HT.aT c.length c.length hi - HT.aT c.length 0 lo),Z1 _ rfl⟩
noncomputable def uS:V->Bool
 |.aV=>true
 |.bl _=>true
 |.int _=>true
 |.str _=>true
 |_=>false
def kE:gx X (.builtin "len") (λxs H Q=>∃p ys,xs=[.ref p]/\(fz X.K H p ys\/cU X.K H p ys)/\Q (.int ys.length) H):=by
 intro i s σ H xs us Q I r h;obtain⟨p,ys,rfl,d,q⟩:=h;obtain⟨u,rfl,j⟩:=vals1 r;cases j;have l:=mD;rcases d with d|d
 .obtain⟨e,f,g,k⟩:=I.list d;have c:=f.length;exact Calls.call_len_list g.isList (by simp only[ZL]<;>omega) ⟨.int ys.length,H,I.tok _,⟨s.toks+1,by rw[ZL,c]⟩,q⟩
 .obtain⟨e,f,g,k⟩:=I.tuple d;have c:=f.length;exact len_tuple g (by simp only[ZL]<;>omega) ⟨.int ys.length,H,I.tok _,⟨s.toks+1,by rw[ZL,c]⟩,q⟩
def vC:gx X (.builtin "len") (λxs H Q=>∃z,xs=[.str z]/\z.length<=sizeLine/\Q (.int z.length) H):=by
 intro c s σ H xs us Q I r h;obtain⟨z,rfl,d,q⟩:=h;obtain⟨u,rfl,t,rfl⟩:=vals1 r;have e:=mD;exact abC (by omega) ⟨.int z.length,H,I.tok _,⟨_,rfl⟩,q⟩
def iG:gx X (.type "list") (λxs H Q=>∃p ys,xs=[.ref p]/\(fz X.K H p ys\/cU X.K H p ys)/\∀l,H l=none->Q (.ref l) (upd H l (.lst ys))):=by
 intro i s σ H xs us Q I r h;obtain⟨p,ys,rfl,j,q⟩:=h;obtain⟨u,rfl,F⟩:=vals1 r;cases F;have fin:∀(c:List Value),Vals ys c->ys.length<=sizeLine->∀(d:Heap) (f:Nat),(∀b o',s.heap.get? b=some o'->d.get? b=some o')->
   d.get? s.heap.objs.size=some { cls:=.type "list",dict:=none,data:=.seq c.toArray f,slots:=#[]}->EP X i σ Q (.ref s.heap.objs.size) { s with heap:=d }:=λc g k d f x e=>
  ⟨.ref s.heap.objs.size,_,I.laid (t':=s.toks) x (ZO _) (show fO X.prog X.w _ d _ (.lst ys)from ⟨k,c,f,g,e⟩),rfl,q _ (I.hok.fresh (ZO _))⟩
 rcases j with j|j
 .obtain⟨c,g,z,k⟩:=I.list j;have y:=g.length;obtain⟨o,A,B,n,C⟩:=z.isList;exact call_list_seq p (.inl rfl) A B C (λd f x e=>fin c g k d f x e) (by simp only[ZL]<;>omega)
 .obtain⟨c,g,z,k⟩:=I.tuple j;have y:=g.length;obtain⟨o,A,B,n,C⟩:=z;exact call_list_seq p (.inr rfl) A B C (λd f x e=>fin c g k d f x e) (by simp only[ZL]<;>omega)
def nN:gx X (.type "tuple") (λxs H Q=>∃p ys,xs=[.ref p]/\((fz X.K H p ys/\∀l,H l=none->Q (.ref l) (upd H l (.tup ys)))\/(cU X.K H p ys/\Q (.ref p) H))):=by
 intro c s σ H xs us Q I r h;obtain⟨p,ys,rfl,h⟩:=h;obtain⟨u,rfl,y⟩:=vals1 r;cases y;rcases h with ⟨g,q⟩|⟨g,q⟩
 .obtain⟨d,i,j,k⟩:=I.list g;have x:=i.length;refine call_tuple_list j.isList (λf z=>?_) (by simp only[ZL]<;>omega);have I1:Inv X c σ H { s with heap:=f }:=I.kept (t':=s.toks) z;have I2:Inv X c σ (upd H f.objs.size (.tup ys)) { s with heap:=f.push { cls:=.type "tuple",data:=.seq d.toArray }}:=
   I1.laid (t':=s.toks) (λb o e=>ZK _ e) (ZO _) (show fO X.prog X.w _ _ _ (.tup ys)from ⟨k,d,i,IsTup.new _ _⟩)
  exact⟨.ref f.objs.size,_,I2,rfl,q _ (I1.hok.fresh (ZO _))⟩
 .obtain⟨d,i,j,k⟩:=I.tuple g;exact call_tuple_same j ⟨.ref p,H,I,rfl,q⟩
def BD(K:PySem.W.Frag)(T:String)(x:V)(H:Hp):Prop:=match x with
 |.str _=>T = "str"
 |.int _=>T = "int"
 |.ref p=>(T = "list" /\∃xs,fz K H p xs)\/(T = "tuple" /\∃o,K.lookup p=some o/\o.cls=.type "tuple" /\o.dict=none)\/
   (T = "dict" /\((∃kvs,H p=some (.dK kvs))\/∃kvs,H p=some (.dT kvs)))\/(T = "set" /\∃S n,H p=some (.set S n))
 |_=>False
def BE{pins:List (Addr×Obj)}{σ:St}{H:Hp}{s:Shared}{T:String}{x:V}{v:Value}(I:Inv X pins σ H s)(r:RelV x v)(ty:BD X.K T x H) :
  s.TypeIs v T/\∀a,v=.ref a->∃ob,s.heap.get? a=some ob/\ob.dict=none:=by
 cases x with
 |str z=>
  obtain⟨t,rfl⟩:=r;cases (show T = "str" from ty);exact⟨typeIs_str s z t,λ_ e=>nomatch e⟩
 |int i=>
  obtain⟨t,rfl⟩:=r;cases (show T = "int" from ty);exact⟨abP s i t,λ_ e=>nomatch e⟩
 |ref p=>
  cases r;rcases ty with ⟨rfl,y,k⟩|⟨rfl,o,d,l,f⟩|⟨rfl,d⟩|⟨rfl,S,n,d⟩
  .obtain⟨q,_,j,_⟩:=I.list k;refine⟨j.isList.typeIs,λa e=>?_⟩;cases e;obtain⟨o,n,e,c,f,_⟩:=j;exact⟨o,e,f⟩
  .refine⟨⟨o,I.kB p o d,l⟩,λa e=>?_⟩;cases e;exact⟨o,I.kB _ o d,f⟩
  .have z:∃o,s.heap.get? p=some o/\o.ExactDict:=by
    rcases d with ⟨g,d⟩|⟨g,d⟩
    .obtain⟨_,_,_,_,o,_,_,e,ex,_⟩:=I.hok p _ d;exact⟨o,e,ex⟩
    .obtain⟨_,_,_,_,o,_,_,e,ex,_⟩:=I.hok p _ d;exact⟨o,e,ex⟩
   obtain⟨o,e,ex⟩:=z;refine⟨⟨o,e,ex.1⟩,λa h=>?_⟩;cases h;exact⟨o,e,ex.2.1⟩
  .obtain⟨o,_,_,_,e,ex,_⟩:=I.hok p _ d;refine⟨⟨o,e,ex.1⟩,λa h=>?_⟩;cases h;exact⟨o,e,ex.2.1⟩
 |_=>exact False.elim ty
noncomputable def Uy(K:PySem.W.Frag)(T:String)(r:V->List V->Hp->VK->Prop)(to:TE):TE:=λσ H Q=>to σ H λx H1=>BD K T x H1/\r x [] H1 Q
noncomputable def VJ(K:PySem.W.Frag)(T:String)(r:V->List V->Hp->VK->Prop)(to:TE)(t:TA):TE:=λσ H Q=>to σ H λx H1=>BD K T x H1/\t σ H1 λc H2=>r x c H2 Q
variable{o e:Expr}{es:List Expr}{to:TE}{t:TA}{name:Str}{apos cpos:Pos}{T id:String}{r:V->List V->Hp->VK->Prop}
def BF (pa:PlainAttrs T) (slot:Slot T name id) (hty:typeOf (.builtin id)=pure (.type "method_descriptor")) (hm:t9 X id r) (ho:PE X o to)
  (hbase:attributeBase o name X.env (eval o X.env)=eval o X.env:=by rfl) (hline:(apos.endLine==cpos.line)=true:=by rfl):PE X (.Call (.Attribute o name apos) [] [] cpos) (Uy X.K T r to):=by
 intro c s σ H Q I h;refine wpAny_Call_method0_late hbase hline (bH (ho c s σ H _ I h) λv s1 ⟨x,H1,I1,d,f,g⟩=>?_);obtain⟨i,j⟩:=BE I1 d f;exact⟨T,id,pa,slot,hty,i,j,Calls.callWith_builtin rfl (PySem.evalArgs_none (hm c s1 σ H1 x [] v [] Q I1 d .nil g))⟩
def Aa (pa:PlainAttrs T) (slot:Slot T name id) (hty:typeOf (.builtin id)=pure (.type "method_descriptor")) (hm:t9 X id r) (ho:PE X o to) (ha:PA X (e :: es) t)
  (hbase:attributeBase o name X.env (eval o X.env)=eval o X.env:=by rfl)
  (hfew:((backTo cpos (starEach (e :: es) X.env)).all (λx=>!x.1)&&(backToKw cpos (keywordEach [] X.env)).all (λx=>x.1.isSome)
   &&decide ((e :: es).length+([]:List Keyword).length+(if ([]:List Keyword).isEmpty then 0 else 1)<30))=true:=by rfl)
  (hline:(apos.endLine==cpos.line)=true:=by rfl) (hs:starEach (e :: es) X.env=(false,eval e X.env) :: starEach es X.env:=by rfl) (hplain:(backTo cpos (starEach es X.env)).any (·.1)=false:=by rfl) :
  PE X (.Call (.Attribute o name apos) (e :: es) [] cpos) (VJ X.K T r to t):=by
 intro c s σ H Q I h;refine wpAny_Call_method_late hbase hfew hline rfl (bH (ho c s σ H _ I h) λv s1 ⟨x,H1,I1,d,g,i⟩=>?_);obtain⟨j,k⟩:=BE I1 d g;refine⟨T,id,pa,slot,hty,j,k,?_⟩;have f:=ha cpos c s1 σ H1 _ I1 i;rw[hs]at f ⊢;refine Calls.callWith_builtin (by show(false || (backTo cpos (starEach es X.env)).any (·.1))=false;rw[hplain]<;>rfl) (Calls.evalArgs_plain ?_);exact bH f λl s2 ⟨p,H2,I2,q,y⟩=>hm c s2 σ H2 x p v l Q I2 d q y
end
def Lj(X:Cx)(id:String)(r:V->List V->Hp->VK->Prop):Prop:=
 ∀(pins:List (Addr×Obj)) (s:Shared) (σ:St) (H:Hp) (x:V) (xs:List V) (v:Value) (us:List Value) (Q:VK),Inv X pins σ H s->RelV x v->Vals xs us->r x xs H Q->
  wpAny (model X.prog X.w) X.A (call (.builtin id) (v :: us)) (EP X pins σ Q) X.xe s
def Vals.one:∀{x:V}{us:List Value},Vals [x] us->∃u,us=[u]/\RelV x u
 |_,_,.cons r .nil=>⟨_,rfl,r⟩
def Vals.zero:∀{us:List Value},Vals [] us->us=[]
 |_,.nil=>rfl
theorem Vals.dropLast{xs:List V}{us:List Value}(h:Vals xs us):Vals xs.dropLast us.dropLast:=by
 induction h with
 |nil=>exact .nil
 |cons r t a=>
  cases t with
  |nil=>exact .nil
  |cons q b=>exact .cons r a
theorem Vals.reverse{xs:List V}{us:List Value}(h:Vals xs us):Vals xs.reverse us.reverse:=by
 induction h with
 |nil=>exact .nil
 |cons r t a=>rw[Z3,Z3];exact Vals.append a (.cons r .nil)
theorem Vals.rep{xs:List V}{us:List Value}(h:Vals xs us):∀k:Nat,Vals (List.replicate k xs).flatten (List.replicate k us).flatten
 |0=>.nil
 |k+1=>by
  rw[ZV,ZV,aaV,aaV];exact Vals.append h (Vals.rep h k)
def Ab{α:Type}(l:List α):l.eraseIdx (l.length - 1)=l.dropLast:=by
 induction l with
 |nil=>rfl
 |cons a r c=>
  cases r with
  |nil=>rfl
  |cons b r=>
   have e:(a :: b :: r).length - 1=((b :: r).length - 1)+1:=by
    have d:(a :: b :: r).length=r.length+2:=rfl;have f:(b :: r).length=r.length+1:=rfl;omega
   rw[e,List.eraseIdx_cons_succ,c];all_goals rfl
theorem foldl_rep(its:List Value):∀(k:Nat) (acc:List Value),
  List.foldl (λx1 x2=>x1++x2) acc.toArray (List.replicate k its.toArray)=(acc++(List.replicate k its).flatten).toArray
 |0,acc=>by simp
 |k+1,acc=>by
  have e:acc.toArray++its.toArray=(acc++its).toArray:=by simp
  have a:(acc++its)++(List.replicate k its).flatten=acc++(List.replicate (k+1) its).flatten:=by
   rw[ZV,aaV,aap]
  rw[<-a,<-foldl_rep its k (acc++its),<-e,ZV,aan]
section
variable{X:Cx}{pins:List (Addr×Obj)}{σ:St}{H:Hp}{s:Shared}{l:Addr}{xs ys:List V}
def Inv.DW{its its':List Value}{n:Nat}{f:Array Value->Array Value}{t':Nat}(I:Inv X pins σ H s)(hH:H l=some (.lst xs))
  (e:s.heap.get? l=some { cls:=.type "list",data:=.seq its.toArray n }) (hf:f its.toArray=its'.toArray) (hv:Vals ys its') (hz:ys.length<=sizeLine) :
  Inv X pins σ (upd H l (.lst ys)) { s with heap:=s.heap.update l (Obj.mapSeq f),toks:=t' }:=by
 have q:=PySem.IsL.update e f;rw[hf]at q;refine I.write (x:=l) (e:=l) (by rw[hH];exact trivial) (.inl rfl) (λc u a b=>(aa7 s.heap (Obj.mapSeq f) (aay a)).trans b) ⟨_,q⟩ ?_;exact⟨hz,its',_,hv,q⟩
def Inv.DX{its:List Value}{t':Nat}(I:Inv X pins σ H s)(hv:Vals ys its)(hz:ys.length<=sizeLine) :
  Inv X pins σ (upd H s.heap.objs.size (.lst ys)) { s with heap:=s.heap.push { cls:=.type "list",data:=.seq its.toArray },toks:=t' }:=
 I.laid (λ_ _ q=>ZK _ q) (ZO _) ⟨hz,its,0,hv,Z1 _ rfl⟩
theorem Inv.fresh(I:Inv X pins σ H s):H s.heap.objs.size=none:=I.hok.fresh (ZO _)
def Inv.qt (I:Inv X pins σ H s) (hH:H l=some (.lst xs)):xs.length<=sizeLine/\∃(its:List Value) (n:Nat),Vals xs its/\xs.length=its.length/\s.heap.get? l=some { cls:=.type "list",data:=.seq its.toArray n }:=by
 obtain⟨z,its,n,r,e⟩:=I.hok l _ hH;exact⟨z,its,n,r,r.length,e⟩
def vD{n:Nat}(h:n<=sizeLine):Builtin.List.listTooLong n=false:=by
 unfold Builtin.List.listTooLong;exact Z6 (by omega)
end
section
variable{X:Cx}
def Iv:V->List V->Hp->VK->Prop:=λx a H Q=>∃l xs y,x=.ref l/\a=[y]/\H l=some (.lst xs)/\xs.length<sizeLine/\Q .aV (upd H l (.lst (xs++[y])))
def lD:Lj X "list.append" Iv:=by
 intro b s σ H x vs v us Q I rx rv h;obtain⟨l,f,y,rfl,rfl,c,g,q⟩:=h;cases rx;obtain⟨u,rfl,d⟩:=rv.one;obtain⟨z,a,n,r,i,e⟩:=I.qt c;refine aa4 F.slot_list_append ⟨_,e,rfl⟩ F.entry_list_append (F.args_list_append_2 _ _) (PySem.list_append l a.toArray n u (by rw[ZL];omega)) ⟨e,?_⟩;refine⟨.aV,_,I.DW (its':=a++[u]) c e (by simp) (r.append (.cons d .nil)) ?_,rfl,q⟩;rw[ZX,aal];omega
def Iw:V->List V->Hp->VK->Prop:=λx a H Q=>∃l b xs zs,x=.ref l/\a=[.ref b]/\H l=some (.lst xs)/\H b=some (.lst zs)/\xs.length+zs.length<=sizeLine/\Q .aV (upd H l (.lst (xs++zs)))
def BG:Lj X "list.extend" Iw:=by
 intro f s σ H x vs v us Q I rx rv h;obtain⟨l,b,y,A,rfl,rfl,g,i,B,q⟩:=h;cases rx;obtain⟨u,rfl,j⟩:=rv.one;cases j;obtain⟨z,c,n,r,C,e⟩:=I.qt g;obtain⟨G,a,n2,k,o,p⟩:=I.qt i;have d:c.toArray.size+a.toArray.size<=sizeLine:=by rw[ZL,ZL];omega
 have Ac:¬ (!c.toArray.isEmpty&&Builtin.List.listTooLong (c.toArray.size+a.toArray.size))=true:=by
  rw[vD d,Bool.and_false];exact aaP
 refine aa4 F.slot_list_extend ⟨_,e,rfl⟩ F.entry_list_extend (F.args_list_extend_2 _ _)
  (AutoSeq1.list_extend_list_list_0 l c.toArray n b a.toArray n2 Ac (by rw[ZL];omega) (by omega)) ⟨e,p,?_⟩
 refine⟨.aV,_,I.DW (its':=c++a) g e (by simp) (r.append k) ?_,rfl,q⟩;rw[ZX];omega
def Uz:V->List V->Hp->VK->Prop:=λx a H Q=>∃l xs y,x=.ref l/\a=[]/\H l=some (.lst xs)/\xs[xs.length - 1]?=some y/\Q y (upd H l (.lst xs.dropLast))
def BH:Lj X "list.pop" Uz:=by
 intro c s σ H x vs v us Q I rx rv h;obtain⟨l,k,y,rfl,rfl,d,f,q⟩:=h;cases rx;have VL:=rv.zero;subst VL;obtain⟨z,a,n,r,g,e⟩:=I.qt d;obtain⟨u,i,j⟩:=r.get f;have b:a.toArray[a.toArray.size - 1]?=some u:=by
  show a.toArray[a.length - 1]?=some u;rw[<-Array.getElem?_toList,<-g];exact i
 refine aa4 F.slot_list_pop ⟨_,e,rfl⟩ F.entry_list_pop (F.args_list_pop_1 _) (MeetsSeq.list_pop_last l a.toArray n u b (by rw[ZL];omega)) ⟨e,?_⟩;refine⟨y,_,I.DW (its':=a.dropLast) d e ?_ r.dropLast ?_,j,q⟩
 .show a.toArray.eraseIdxIfInBounds (a.toArray.size - 1)=a.dropLast.toArray;rw[ZL,List.eraseIdxIfInBounds_toArray,Ab]
 .rw[List.length_dropLast];omega
noncomputable def UA:R2:=λx y H Q=>∃l b xs zs,x=.ref l/\y=.ref b/\H l=some (.lst xs)/\H b=some (.lst zs)/\xs.length+zs.length<=sizeLine/\∀p,H p=none->Q (.ref p) (upd H p (.lst (xs++zs)))
def Lk:eF X (binaryOp .Add) UA:=by
 intro d s σ H x y v u Q I rx ry h;obtain⟨l,b,p,A,rfl,rfl,f,g,B,q⟩:=h;cases rx;cases ry;obtain⟨z,c,n,r,C,e⟩:=I.qt f;obtain⟨F,a,n2,i,j,k⟩:=I.qt g;refine PySem.P.add_list e k ?_ (by rw[ZL,ZL];omega);have o:c.toArray++a.toArray=(c++a).toArray:=by simp
 rw[o];exact⟨.ref _,_,I.DX (t':=s.toks) (r.append i) (by rw[ZX];omega),rfl,q _ I.fresh⟩
noncomputable def UB:R2:=λx y H Q=>∃l k xs,x=.ref l/\y=.int k/\H l=some (.lst xs)/\-(2 ^ 63)<=k/\k<2 ^ 63/\xs.length*k.toNat<=sizeLine/\
 ∀p,H p=none->Q (.ref p) (upd H p (.lst (List.replicate k.toNat xs).flatten))
def len_rep{α:Type}(xs:List α)(k:Nat):(List.replicate k xs).flatten.length=k*xs.length:=by
 induction k with
 |zero=>simp
 |succ k a=>rw[ZV,aaV,ZX,a,Nat.succ_mul,aa8]
def Ll:eF X (binaryOp .Mult) UB:=by
 intro o s σ H x y v u Q I rx ry h;obtain⟨l,k,K,rfl,rfl,A,B,C,p,q⟩:=h;cases rx;obtain⟨t,rfl⟩:=ry;obtain⟨z,b,n,r,G,e⟩:=I.qt A;have c:b.toArray.size*k.toNat<=sizeLine:=by rw[ZL,<-G];exact p
 have d:¬ b.toArray.size*k.toNat > (2 ^ 63 - 1) / 8:=by
  have:(sizeLine:Nat)<=(2 ^ 63 - 1) / 8:=by decide
  omega
 have f:¬ (!Builtin.List.listFitsIndex k)=true:=by
  rw[fitsIndex_both B C];exact aaP
 have Ac:¬ Builtin.List.listTooLong (b.toArray.size*k.toNat)=true:=by
  rw[vD c];exact aaP
 have g:List.foldl (λi j=>i++j) #[] (List.replicate (if b.toArray.isEmpty=true then 0 else k.toNat) b.toArray)=(List.replicate k.toNat b).flatten.toArray:=by
  have f0:∀m:Nat,List.foldl (λi j=>i++j) #[] (List.replicate m b.toArray)=(List.replicate m b).flatten.toArray:=λm=>by
   have:=foldl_rep b m [];rw[ab9]at this;exact this
  rw[f0];cases b with
  |nil=>simp
  |cons a L=>rw[ZS (by simp)]
 refine abQ (T:="list") (U:="int") (by decide) ⟨_,e,rfl⟩ (λJ=>abP J k t) noFill_list_mul F.fills_int_mul F.slot_int_rmul repeat_list F.slot_int_index.lookup
  (aa4 F.slot_int_rmul (abP s k t) F.entry_int_rmul (F.args_int_rmul_2 _ _) (int___rmul___int_list k t l b.toArray n)
   ⟨e,rfl,⟨_,e,rfl⟩,aa4 F.slot_list_mul ⟨_,e,rfl⟩ F.entry_list_mul (F.args_list_mul_2 _ _) (AutoListH.list___mul___list_int_3 l b.toArray n k t f d Ac) ⟨e,?_⟩⟩)
 rw[g];exact⟨.ref _,_,I.DX (t':=s.toks) (r.rep k.toNat) (by rw[len_rep,Nat.mul_comm];exact p),rfl,q _ I.fresh⟩
end
end L2
namespace RI
open PySem PySem.W PySem.Calls PyProof.Rows
def qQ{P:Params}{h:Heap}:∀(ns:List Int) (vs:List Value),WellAll P h vs (ns.map WData.int)->IntsAre vs ns:=by
 intro ns;induction ns with
 |nil=>
  intro vs w;rw[abW]at w;cases w;exact .nil
 |cons n ns c=>
  intro vs w;rw[ZT]at w;cases w with
  |cons a b=>
   cases a;exact .cons _ _ (c _ b)
def BJ{l:OpenLaw}{n:Nat}(hn:l.most=some n){P:Params}{h:Heap}{args:List WData}{vals:List Value}
  (hpre:l.row.toRowW.claim.pre args=true) (hwl:WellAll P h vals args) :
  ∃a vs ns,vals=[Value.ref a]/\args=[WData.list (ns.map WData.int)]/\h.get? a=some { cls:=.type "list",data:=.seq vs.toArray }/\IntsAre vs ns/\ns.length<=n:=by
 have g:WShape.hasAll [] args [.list .int]=true:=(pre_splitW hpre).1;have i:l.pre.holds [] { args:=args }=true:=(pre_splitW hpre).2;obtain⟨d,r,rfl,j,k⟩:=hasAllW_cons g;obtain rfl:=hasAllW_nil k;obtain⟨A,rfl,o⟩:=hasW_list j;obtain⟨ns,rfl⟩:=items_int o;have b:ns.length<=n:=by
  unfold OpenLaw.pre at i;have e:(WTm.not (.lt (.lit (.int (n:Int))) (.len (.arg 0)))).holds [] { args:=[.list (ns.map .int)]}=true:=by
   have e:=(holds_andW i).1;rw[hn]at e;exact e
  have f:=condW_of e (w_not (w_lt w_lit (w_len_list (w_arg rfl))));rw[aaa]at f;refine Nat.le_of_not_lt λq=>?_;have p:(n:Int)<((ns.length:Nat):Int):=by omega
  first
   | (rw[aae p]at f;exact absurd f (by decide))
   | (simp at f;omega)
 cases hwl with
 |cons x y=>
  cases y;cases x with
  |list z c=>exact⟨_,_,ns,rfl,rfl,z,qQ ns _ c,b⟩
def BK(l:OpenLaw)(args:List WData):l.row.toRowW.claim.post args (.bool true) args=true:=
 postW_of (r:=l.row.toRowW) (X:=(true==true))
  (show WShape.has [] (.bool true) .bool=true by first|rfl|decide|simp[WShape.has,WShape.arms,WShape.armsAll])
  (show(WTm.eq .res (.lit (.bool true))).value [] { args:=args,res:=some (.bool true),after:=args }=some (.bool (true==true))from w_eq_bool (w_res rfl) w_lit) rfl
def xX{l:OpenLaw}{n:Nat}{q:Program}{loose:List Str}{XP:(Str->Option Value)->Heap->Prop}{YP:World->Heap->Prop}{d:DefRec}
  (hn:l.most=some n) (hdf:d.params.defaults=[])
  (call:∀(w:World) (s₀ s₁:Shared) (mg mb:Str->Option Value) (fa:Addr) (o:Obj) (pm cd doc:Value) (a:Addr) (vs:List Value) (ns:List Int),
   Ground q loose [] XP w s₀ mg mb s₁.heap->YP w s₁.heap->
   s₁.heap.get? fa=some o->o.data=.func (docDef d.name d.params d.body d.scope pm cd doc)->s₁.heap.CodeRec cd d.name->mg d.name=some (.ref fa)->
   s₁.heap.get? a=some { cls:=.type "list",data:=.seq vs.toArray }->IntsAre vs ns->ns.length<=n->s₁.gens = #[]->
   codeAny (model l.prog w) callerA (.call (.ref fa) ⟨[.ref a],[]⟩) (λr s'=>r=.ok (.ret (.bool true))/\OldK s₁.heap s'.heap/\s'.os=s₁.os/\AllBare s'.gens) s₁) :
  WalkO q loose XP YP l.row.toRowW d [] (λf vs=>PySem.call f vs):=by
 intro w s₀ s₁ mg mb G Y fa o pm cd doc y kV z A h k i B args p M c x C j F;obtain rfl:y=.none:=Dflts.none k hdf;obtain rfl:kV=.none:=Dflts.noKw k;obtain⟨a,vs,ns,rfl,rfl,e,b,g⟩:=BJ hn c j;refine enter_call (abU (call w s₀ s₁ mg mb fa o pm cd doc a vs ns G Y z (fd_plain A) h i e b g B) λr s' H=>?_);obtain⟨rfl,I,J,K⟩:=H;exact⟨.inl ⟨.bool true,.bool true,[],rfl,λ_=>rfl,.bool true,BK l _,λ_=>⟨List.Pairwise.nil,λ_ L=>(nomatch L)⟩⟩,I,J,K⟩
end RI
namespace L2
open PySem PySem.Spec PyProof.Rows
theorem ua:∀{vs:List Value}{ns:List Int},IntsAre vs ns->Vals (ns.map V.int) vs
 |_,_,.nil=>.nil
 |_,_,.cons n t h=>.cons ⟨t,rfl⟩ (ua h)
def sN(H:Hp):Prop:=∀b,H b=none\/∃o xs,H b=some (.bT o (.lst xs))
def DY{P:Program}{w:World}{K:PySem.W.Frag}{mg mb:Str->Option Value}{CX:nM}{k:Nat}{fa a:Addr}{fd:FuncData}{x:Str}{sp:Sp}{s₁:Shared}{vs:List Value}{ns:List Int}
  (KX:K.In s₁.heap) (hns:s₁.heap.Ns mainGlobals mg) (hb:s₁.heap.Ns builtinsNs mb) (Lm:∀x:Str,x≠"__name__" ->mb x=bootBuiltins x) (hlim:s₁.heap.NoLimit) (hg:s₁.gens = #[])
  (ha:s₁.heap.get? a=some { cls:=.type "list",data:=.seq vs.toArray }) (hi:IntsAre vs ns) (hl:ns.length<=sizeLine) (hr:eW k callerA)
  (F:∀base:Heap,K.In base->base.Ns mainGlobals mg->fB P w K mg base CX k fa fd [x] sp) (hbind:∀(s:Shared) (u:Value),BindsTo s fd ⟨[u],[]⟩ [(x,u)])
  (mF:∀H:Hp,sN H->fz K H a (ns.map V.int)->sp [.ref a] H (λv _=>v=.bl true) λ_ _ _=>False)
  (BL:∀H e s',CX [] H s₁ (λ_ _ _=>False) e s'->False) :
  codeAny (model P w) callerA (.call (.ref fa) ⟨[.ref a],[]⟩) (λr s'=>r=.ok (.ret (.bool true))/\OldK s₁.heap s'.heap/\s'.os=s₁.os/\AllBare s'.gens) s₁:=by
 have rv:=ua hi;have UC:=hi.length;have c:∀H:Hp,sN H->fz K H a (ns.map V.int)->gc P w H s₁.heap->(∀b,H b≠none->b=a)->(H a≠none->K.lookup a=none)->
   codeAny (model P w) callerA (.call (.ref fa) ⟨[.ref a],[]⟩) (λr s'=>r=.ok (.ret (.bool true))/\OldK s₁.heap s'.heap/\s'.os=s₁.os/\AllBare s'.gens) s₁:=by
  intro H l B f p C;have y:∀{b:Addr} {o:Obj},s₁.heap.get? b=some o->H b=none->(m6 s₁.heap H).get? b=some o:=λe n=>DH e n;have BC:∀{b:Addr} {o:Obj} {es:Array DictEntry} {ep:Nat},s₁.heap.get? b=some o->o.data=.dict es ep->H b=none:=λ{b o es ep} e d=>by
   cases q:H b with
   |none=>rfl
   |some u=>
    have j:b=a:=p b (by rw[q];simp);subst j;rw[ha]at e;cases e;have G:Data.seq vs.toArray _=Data.dict es ep:=d;cases G
  have FY:∀{b:Addr} {m:Str->Option Value},s₁.heap.Ns b m->(m6 s₁.heap H).Ns b m:=λ{b m} ⟨o,es,ep,e,d,r⟩=>⟨o,es,ep,y e (BC e d),d,r⟩
  have RJ:K.In (m6 s₁.heap H):=λb o e=>y (KX b o e) (by
   cases q:H b with
   |none=>rfl
   |some u=>
    have j:b=a:=p b (by rw[q];simp);subst j;rw[C (by rw[q];simp)]at e;cases e)
  have I:Mod K mg (m6 s₁.heap H):=⟨RJ,FY hns,⟨mb,FY hb,Lm⟩,let ⟨mc,h1,h2⟩:=hlim;⟨mc,FY h1,h2⟩⟩
  have J:qq P w K mg (m6 s₁.heap H) callerA [] s₁ H:=⟨rfl,I,λb o e=>HX e,Nat.le_of_eq (Bh _ _),trivial,λb hb=>absurd (show b∈([]:List Addr)from hb) (by simp),f,.of_eq hg⟩
  refine abU ((F _ RJ (FY hns)).run callerA [] s₁ H ⟨[.ref a],[]⟩ [.ref a] [.ref a] _ _ hr J (hbind s₁ (.ref a)) (.cons rfl .nil) (mF H l B)) λr s' h=>?_;cases r with
  |error e=>exact(BL H e s' h).elim
  |ok fl=>
   cases fl with
   |next=>exact False.elim h
   |brk=>exact False.elim h
   |cont=>exact False.elim h
   |ret u=>
    obtain⟨v,H',os,g,un,UD,L,q⟩:=h;have M:v=.bl true:=q;subst M;obtain rfl:u=Value.bool true:=L;refine⟨rfl,OldK.of_keep λb o e=>?_,os,g⟩;cases q:H b with
    |none=>exact un.keep b o e q (by intro z;exact absurd (show b∈([]:List Addr)from z) (by simp)) (by simp)
    |some u=>
     rcases l b with z|⟨N,Y,z⟩
     .rw[q]at z;cases z
     .have Q:=un.m5 b N _ z;obtain⟨A,_⟩:=f b _ z;obtain⟨X,_⟩:=UD b _ Q;rw[e]at A;cases A;exact X
 cases hk:K.lookup a with
 |some o=>
  have e:=KX a o hk;rw[ha]at e;cases e;refine c (λ_=>none) (λ_=>.inl rfl) (.inr ⟨_,vs.toArray,_,hk,rfl,rfl,rfl,by rw[ZL,UC];exact hl,by simpa using rv⟩) (λb u z=>by have i:(none:Option HO)=some u:=z;cases i) (λb z=>absurd rfl z) λz=>absurd rfl z
 |none=>
  refine c (λb=>if b=a then some (.bT { cls:=.type "list",data:=.seq vs.toArray } (.lst (ns.map V.int)))else none) (λb=>?_) (.inl (.inr ⟨{ cls:=.type "list",data:=.seq vs.toArray },xC rfl⟩)) (λb u z=>?_) (λb z=>?_) λ_=>hk
  .by_cases hb:b=a
   .exact .inr ⟨_,_,xC hb⟩
   .exact .inl (ZS hb)
  .by_cases hb:b=a
   .have i:=(xC hb).symm.trans z;cases i;subst hb;exact⟨ha,by rw[aaa];exact hl,vs,_,rv,ha⟩
   .have i:=(ZS hb).symm.trans z;cases i
  .by_cases hb:b=a
   .exact hb
   .exact absurd (ZS hb) z
def Iz{l:PySem.W.OpenLaw}{n k:Nat}{q:Program}{loose:List Str}{XP:(Str->Option Value)->Heap->Prop}{YP:World->Heap->Prop}{d:DefRec}{K:Params->PySem.W.Frag}{CX:World->nM}{sp:World->Sp}{x:Str}
  (hn:l.most=some n) (hn2:n<=sizeLine) (hdf:d.params.defaults=[]) (hr:eW k callerA)
  (hY:∀(w:World) (h:Heap),YP w h->(K w.params).In h)
  (F:∀(w:World) (mg:Str->Option Value) (fa:Addr) (h:Heap),(K w.params).In h->h.Ns mainGlobals mg->mg d.name=some (.ref fa)->
   ∃fd:FuncData,(∀(s:Shared) (u:Value),BindsTo s fd ⟨[u],[]⟩ [(x,u)])/\
    ∀base:Heap,(K w.params).In base->base.Ns mainGlobals mg->fB l.prog w (K w.params) mg base (CX w) k fa fd [x] (sp w))
  (mF:∀(w:World) (H:Hp) (a:Addr) (ns:List Int),ns.length<=n->sN H->fz (K w.params) H a (ns.map V.int)->sp w [.ref a] H (λv _=>v=.bl true) λ_ _ _=>False)
  (BL:∀(w:World) (H:Hp) (s:Shared) (e:Value) (s':Shared),CX w [] H s (λ_ _ _=>False) e s'->False) :
  PySem.W.WalkO q loose XP YP l.row.toRowW d [] (λf vs=>PySem.call f vs):=by
 refine RI.xX hn hdf λw L r mg M fa o N P y a vs ns G Y Q X z p j i c A=>?_;have KX:=hY w _ Y;obtain⟨fd,B,C⟩:=F w mg fa _ KX G.T.g p;exact DY KX G.T.g G.T.b G.T.builtins G.T.nolimit A j i (Z2 c hn2) hr C B (λH I J=>mF w H a ns c I J) λH e s'=>BL w H r e s'
def DZ{l:PySem.W.OpenLaw}{n k:Nat}{q:Program}{loose:List Str}{XP:(Str->Option Value)->Heap->Prop}{YP:World->Heap->Prop}{d:DefRec}{K:Params->PySem.W.Frag}{CX:nM}{sp:PySem.W.Frag->Sp}{x:Str}
  (hn:l.most=some n) (hn2:n<=sizeLine) (hdf:d.params.defaults=[]) (hr:eW k callerA)
  (hY:∀(w:World) (h:Heap),YP w h->(K w.params).In h)
  (F:∀(w:World) (mg:Str->Option Value) (fa:Addr) (h:Heap),(K w.params).In h->h.Ns mainGlobals mg->mg d.name=some (.ref fa)->
   ∃fd:FuncData,(∀(s:Shared) (u:Value),BindsTo s fd ⟨[u],[]⟩ [(x,u)])/\
    ∀base:Heap,(K w.params).In base->base.Ns mainGlobals mg->fB l.prog w (K w.params) mg base CX k fa fd [x] (sp (K w.params)))
  (mF:∀(K:PySem.W.Frag) (H:Hp) (a:Addr) (ns:List Int),ns.length<=n->sN H->fz K H a (ns.map V.int)->sp K [.ref a] H (λv _=>v=.bl true) λ_ _ _=>False)
  (BL:∀(H:Hp) (s:Shared) (e:Value) (s':Shared),CX [] H s (λ_ _ _=>False) e s'->False) :
  PySem.W.WalkO q loose XP YP l.row.toRowW d [] (λf vs=>PySem.call f vs):=
 Iz (K:=K) (CX:=λ_=>CX) (sp:=λw=>sp (K w.params)) hn hn2 hdf hr hY F (λw H a ns b c g=>mF (K w.params) H a ns b c g) λ_ H s e s'=>BL H s e s'
noncomputable def pe(s:Stmt):Arguments:=match s with
 |.FunctionDef _ a _ _ _ _ _ _ _ _=>a
 |_=>{ posonlyargs:=[],args:=[],vararg:=none,kwonlyargs:=[],kw_defaults:=[],kwarg:=none,defaults:=[]}
noncomputable def fW(s:Stmt):List Stmt:=match s with
 |.FunctionDef _ _ b _ _ _ _ _ _ _=>b
 |_=>[]
noncomputable def aK(s:Stmt):Scope:=match s with
 |.FunctionDef _ _ _ _ _ _ a _ _ _=>a
 |_=>{ kind:=.function,names:=[],isGenerator:=false,isCoroutine:=false }
abbrev lE:nM:=λ_ _ _ _ _ _=>False
abbrev E0:XK:=λ_ _ _=>False
def qR{X:Cx}:Passes lE X E0:=λ_ _ _ _ _ _ _ h=>h.elim
structure qS(K:PySem.W.Frag)(x qual:Str)(st:Stmt)(f:Addr)(fd:FuncData):Prop where
 ex:∃(oc:Value) (od:Option Addr) (kV doc pm:Value) (an:Option Addr) (cdv ct:Value) (osl:Array (Option Value)),
  fd=PySem.W.fnOf x qual (pe st) (fW st) (aK st) .none kV doc pm an cdv ct/\K.lookup f=some ⟨oc,od,.func fd,osl⟩/\PySem.W.codeIn K cdv qual=true
 kp:PySem.W.keepIn K (.ref f)=true
section
variable{P:Program}{w:World}{K:PySem.W.Frag}{mg:Str->Option Value}{base:Heap}
def qS.ok{x qual:Str}{st:Stmt}{f:Addr}{fd:FuncData}{N ps:List Str}{k:Nat}{sp:Sp}(F:qS K x qual st f fd)(S:bg N ps (aK st))(len:∀vs H Q E,sp vs H Q E->vs.length=ps.length)
  (hbody:∀(cdv:Value) (A:Around) (outer:List Env) (s:Shared) (H:Hp) (vs:List V) (Q:VK) (E:XK),eW k (A.deeper (envOfC qual (aK st) s.heap.objs.size f cdv))->sp vs H Q E->
   ∃t,gf (qs lE P w K mg base N qual (aK st) f cdv A outer s H E).tW (fW st) t/\t { nx:=λ_ H'=>Q .aV H',rt:=Q } (start N vs) H):fB P w K mg base lE (k+1) f fd ps sp:=by
 obtain⟨i,j,kV,b,l,o,cdv,p,c,rfl,d,a⟩:=F.ex;refine QA d a S len λA outer s H vs Q E e g=>?_;obtain⟨t,h,q⟩:=hbody cdv A outer s H vs Q E e g;exact⟨t,h.tW,q⟩
def qS.binds{x qual:Str}{st:Stmt}{f:Addr}{fd:FuncData}{ps:List Str}(F:qS K x qual st f fd)
  (h:∀(kV doc pm:Value) (an:Option Addr) (cdv ct:Value) (us:List Value),us.length=ps.length->bindArgs (PySem.W.fnOf x qual (pe st) (fW st) (aK st) .none kV doc pm an cdv ct) ⟨us,[]⟩=pure (ps.zip us)):Binds K fd ps []:=by
 obtain⟨c,d,kV,doc,pm,an,cdv,ct,a,rfl,e,b⟩:=F.ex;exact .all (h kV doc pm an cdv ct)
def bO{x qual:Str}{st:Stmt}{f:Addr}{oc:Value}{od an:Option Addr}{osl:Array (Option Value)}{kV doc pm cdv ct:Value}(l:K.lookup f=some ⟨oc,od,.func (PySem.W.fnOf x qual (pe st) (fW st) (aK st) .none kV doc pm an cdv ct),osl⟩)
  (c:PySem.W.codeIn K cdv qual=true) (k:PySem.W.keepIn K (.ref f)=true):qS K x qual st f (PySem.W.fnOf x qual (pe st) (fW st) (aK st) .none kV doc pm an cdv ct):=⟨⟨oc,od,kV,doc,pm,an,cdv,ct,osl,rfl,l,c⟩,k⟩
end
section
variable{X:Cx}
def pv (i:Nat) {x:Str}{pos:Pos}(hN:X.N[i]?=some x:=by rfl) (hv:Bj X.env.scope x:=by first|exact Or.inl rfl|exact Or.inr (Or.inl rfl)|exact Or.inr (Or.inr rfl)) (hd:(x==("__debug__" : Str))=false:=by decide)
  (hcd:(x==("__classdict__" : Str))=false:=by decide):PE X (.Name x pos) (sG i):=qL hN hv hd hcd
end
end L2
namespace Ev
inductive D where
 |aV|bl (b:Bool)|int (i:Int)|str (s:List Nat)|tup (ds:List D)|ref (n:Nat)
structure Cl where
 cn:List Nat
 nm:List (List Nat)
 nv:Nat
 nl:Nat
 deriving DecidableEq
inductive O where
 |lst (ds:List D)|bT (ds:List D)
 |obj (c:Cl) (ds:List D)|b9 (n k:Nat)
abbrev Hh:=List O
abbrev Fr:=List (Option D)
inductive R(α:Type) where
 |ok (a:α) (h:Hh)
 |bad
noncomputable def R.bind{α β:Type}(r:R α)(f:α->Hh->R β):R β:=
 match r with
 |.ok a h=>f a h
 |.bad=>.bad
@[simp] theorem ak{α β:Type}(a:α)(h:Hh)(f:α->Hh->R β):(R.ok a h).bind f=f a h:=rfl
@[simp] theorem D0{α β:Type}(f:α->Hh->R β):(R.bad:R α).bind f=.bad:=rfl
def ah{α β:Type}{r:R α}{f:α->Hh->R β}{b:β}{h:Hh}(e:r.bind f=.ok b h):∃a h1,r=.ok a h1/\f a h1=.ok b h:=by
 cases r with
 |ok a h1=>exact⟨a,h1,rfl,e⟩
 |bad=>cases e
noncomputable def R.of{α:Type}(o:Option α)(h:Hh):R α:=match o with
 |some a=>.ok a h
 |none=>.bad
@[simp] theorem bQ{α:Type}(a:α)(h:Hh):R.of (some a) h=.ok a h:=rfl
@[simp] theorem of_none{α:Type}(h:Hh):R.of (none:Option α) h=.bad:=rfl
def aI{α:Type}{o:Option α}{h h':Hh}{a:α}(e:R.of o h=.ok a h'):o=some a/\h'=h:=by
 cases o with
 |none=>cases e
 |some b=>cases e;exact⟨rfl,rfl⟩
inductive bS where
 |add|sub|mul|fdiv|mod
inductive bM where
 |eq|ne|lt|gt
 |isin|iH
inductive TY where
 |int|bool|str|tuple|list
inductive BI where
 |len|sum|min
inductive ME where
 |join|append|extend|pop
inductive FU where
 |len|yr
 |lF|RK|ix
inductive FM where
 |app
 |pop
inductive TP where
 |a (j:Nat)|t (j:Nat)|c (d:D)
inductive T where
 |one (i:Nat)|many (l:List Nat)
mutual
inductive E where
 |c (d:D)|v (i:Nat)|tup (es:Es)|lst (es:Es)
 |bin (o:bS) (a b:E)|cmp (o:bM) (a b:E)
 |nt (a:E)|neg (a:E)|an (a b:E)|orr (a b:E)|fS (t a b:E)
 |ix (a b:E)|sl (a:E) (lo hi:Eo)
 |cl (f:Nat) (es:Es)|bi (b:BI) (es:Es)|me (m:ME) (o:E) (es:Es)
 |comp (elt:E) (t:T) (it:It) (cond:Eo)
 |gP (it:It)
 |iY (a:E)
 |fld (c:Cl) (i k:Nat)|fu (c:Cl) (o:FU) (i k:Nat) (es:Es)|fm (c:Cl) (o:FM) (i k:Nat) (es:Es)|bJ (c:Cl) (f:Nat) (es:Es)
 |mv (c:Cl) (i k j:Nat)
inductive Es where
 |nil|cons (e:E) (es:Es)
inductive Eo where
 |no|yes (e:E)
inductive It where
 |seq (e:E)|fh (es:Es)
 |rev (a:E)
end
mutual
inductive S where
 |set (i:Nat) (e:E)
 |exp (e:E)|ret (e:E)|iff (t:E) (a b:Ss)|for (t:T) (it:It) (b:Ss)|pY (t:E) (b:Ss)
 |fC (c:Nat)
 |pZ (c:Cl) (i k:Nat)
 |fst (c:Cl) (i k:Nat) (e:E)|new (c:Cl) (i f:Nat) (tp:List TP) (es:Es)
 |qT (c:Cl) (i j f:Nat)|tw (c:Cl) (j f g k:Nat)
inductive Ss where
 |nil|cons (s:S) (ss:Ss)
end
inductive Fl where
 |nx|bk|ct|ret (d:D)
noncomputable def big:Nat:=16777216
noncomputable def cG(f:D->D->Option Bool):List D->List D->Option Bool
 |[],[]=>some true
 |x :: xs,y :: ys=>do
  let b <-f x y
  let c <-cG f xs ys
  pure (b&&c)
 |_,_=>some false
noncomputable def bB(h:Hh)(n:Nat):Option (List D):=match h[n]? with
 |some (.lst ds)=>some ds
 |some (.bT ds)=>some ds
 |_=>none
noncomputable def b2i(b:Bool):Int:=if b then 1 else 0
noncomputable def kF(h:Hh)(f:D->D->Option Bool)(a b:Nat):Option Bool:=if a=b then (bB h a).map λ_=>true else match h[a]?,h[b]? with
 |some (.lst x),some (.lst y)=>cG f x y
 |some (.bT x),some (.lst y)=>cG f x y
 |some (.lst x),some (.bT y)=>cG f x y
 |_,_=>none
noncomputable def ig(h:Hh):Nat->D->D->Option Bool
 |0,_,_=>none
 |_+1,.aV,.aV=>some true
 |_+1,.bl a,.bl b=>some (a==b)
 |_+1,.int a,.int b=>some (a==b)
 |_+1,.bl a,.int b=>some (b2i a==b)
 |_+1,.int a,.bl b=>some (a==b2i b)
 |_+1,.str a,.str b=>some (a==b)
 |n+1,.tup a,.tup b=>cG (ig h n) a b
 |n+1,.ref a,.ref b=>kF h (ig h n) a b
 |_+1,.ref a,_=>(bB h a).map λ_=>false
 |_+1,_,.ref a=>(bB h a).map λ_=>false
 |_+1,_,_=>some false
noncomputable def deep:Nat:=20
noncomputable def truthy(h:Hh):D->Option Bool
 |.aV=>some false
 |.bl b=>some b
 |.int i=>some (i != 0)
 |.str s=>some (!s.isEmpty)
 |.tup ds=>some (!ds.isEmpty)
 |.ref n=>match h[n]? with
  |_=>(bB h n).map λds=>!ds.isEmpty
noncomputable def alloc(ds:List D)(h:Hh):R D:=if ds.length<=big then .ok (.ref h.length) (h++[.lst ds])else .bad
noncomputable def rep{α:Type}(k:Nat)(l:List α):List α:=(List.replicate k l).flatten
noncomputable def cC(i j:Int):Bool:=(decide (-(2 ^ 64)<i)&&decide (i<2 ^ 64)) || (decide (-(2 ^ 64)<j)&&decide (j<2 ^ 64))
noncomputable def bP:bS->D->D->Hh->R D
 |.add,.int i,.int j,h=>.ok (.int (i+j)) h
 |.add,.str a,.str b,h=>if a.length+b.length<=big then .ok (.str (a++b)) h else .bad
 |.add,.tup a,.tup b,h=>if a.length+b.length<=big then .ok (.tup (a++b)) h else .bad
 |.add,.ref a,.ref b,h=>match h[a]?,h[b]? with
  |some (.lst x),some (.lst y)=>alloc (x++y) h
  |_,_=>.bad
 |.sub,.int i,.int j,h=>.ok (.int (i - j)) h
 |.mul,.int i,.int j,h=>if cC i j then .ok (.int (i*j)) h else .bad
 |.mul,.str a,.int k,h=>if 0<=k/\k<=1000/\a.length<=1000 then .ok (.str (rep k.toNat a)) h else .bad
 |.mul,.tup a,.int k,h=>if 0<=k/\k<=1000/\a.length<=1000 then .ok (.tup (rep k.toNat a)) h else .bad
 |.mul,.ref a,.int k,h=>match h[a]? with
  |some (.lst x)=>if 0<=k/\k<=1000/\x.length<=1000 then alloc (rep k.toNat x) h else .bad
  |_=>.bad
 |.fdiv,.int i,.int j,h=>if 0<j/\j<1073741824 then .ok (.int (i / j)) h else .bad
 |.mod,.int i,.int j,h=>if 0<j then .ok (.int (i % j)) h else .bad
 |_,_,_,_=>.bad
noncomputable def mem(h:Hh)(x:D):List D->Option Bool
 |[]=>some false
 |y :: ys=>do
  let b <-ig h deep y x
  let c <-mem h x ys
  pure (b ||c)
noncomputable def isin(x y:D)(h:Hh):Option Bool:=match y with
 |.str s=>match x with
  |.str [c]=>some (s.contains c)
  |_=>none
 |.tup ds=>mem h x ds
 |.ref n=>(bB h n).bind λds=>mem h x ds
 |_=>none
noncomputable def lexLe:List Nat->List Nat->Bool
 |[],_=>true
 |_ :: _,[]=>false
 |x :: xs,y :: ys=>if x=y then lexLe xs ys else decide (x<y)
noncomputable def cop(o:bM)(x y:D)(h:Hh):Option Bool:=match o,x,y with
 |.eq,x,y=>ig h deep x y
 |.ne,x,y=>(ig h deep x y).map (!·)
 |.lt,.int i,.int j=>some (decide (i<j))
 |.gt,.int i,.int j=>some (decide (j<i))
 |.isin,x,y=>isin x y h
 |.iH,x,y=>(isin x y h).map (!·)
 |_,_,_=>none
noncomputable def eK(n:Nat)(i:Int):Option Nat:=if 0<=i then (if i<n then some i.toNat else none)else if -(n:Int)<=i then some (i+n).toNat else none
noncomputable def bE{α:Type}(xs:List α)(i:Int):Option α:=(eK xs.length i).bind λj=>xs[j]?
noncomputable def eX(x y:D)(h:Hh):Option D:=match x,y with
 |.tup ds,.int i=>bE ds i
 |.str s,.int i=>(bE s i).map λc=>.str [c]
 |.ref n,.int i=>(bB h n).bind λds=>bE ds i
 |_,_=>none
noncomputable def aT(n d:Nat):Option Int->Nat
 |none=>d
 |some v=>if v<0 then (v+n).toNat else min v.toNat n
noncomputable def cut{α:Type}(xs:List α)(lo hi:Option Int):List α:=(xs.drop (aT xs.length 0 lo)).take (aT xs.length xs.length hi - aT xs.length 0 lo)
noncomputable def ir(x:D)(lo hi:Option Int)(h:Hh):R D:=match x with
 |.tup ds=>.ok (.tup (cut ds lo hi)) h
 |.str s=>.ok (.str (cut s lo hi)) h
 |.ref n=>match bB h n with
  |some ds=>alloc (cut ds lo hi) h
  |none=>.bad
 |_=>.bad
noncomputable def boolsOf:List D->Option (List Bool)
 |[]=>some []
 |.bl b :: ds=>(boolsOf ds).map λr=>b :: r
 |_=>none
noncomputable def intsOf:List D->Option (List Int)
 |[]=>some []
 |.int i :: ds=>(intsOf ds).map λr=>i :: r
 |_=>none
noncomputable def strsOf:List D->Option (List (List Nat))
 |[]=>some []
 |.str s :: ds=>(strsOf ds).map λr=>s :: r
 |_=>none
noncomputable def cR(sep:List Nat):List (List Nat)->List Nat
 |[]=>[]
 |[s]=>s
 |s :: t :: r=>s++sep++cR sep (t :: r)
noncomputable def Ln(x:List Nat):List (List Nat)->List (List Nat)
 |[]=>[x]
 |y :: ys=>if lexLe x y then x :: y :: ys else y :: Ln x ys
noncomputable def ef:List (List Nat)->List (List Nat)
 |[]=>[]
 |x :: xs=>Ln x (ef xs)
noncomputable def dS(b:BI)(xs:List D)(h:Hh):R D:=match b,xs with
 |.len,[.str s]=>if s.length<=big then .ok (.int s.length) h else .bad
 |.len,[.tup ds]=>.ok (.int ds.length) h
 |.len,[.ref n]=>R.of ((bB h n).map λds=>.int ds.length) h
 |.sum,[.ref n]=>R.of (((bB h n).bind intsOf).map λa=>.int a.sum) h
 |.min,[.int i,.int j]=>.ok (.int (if j<i then j else i)) h
 |_,_=>.bad
noncomputable def fL(m:ME)(o:D)(xs:List D)(h:Hh):R D:=match m,o,xs with
 |.join,.str sep,[.ref n]=>match (bB h n).bind strsOf with
  |some a=>if (a.map (·.length)).sum+a.length*sep.length<=big then .ok (.str (cR sep a)) h else .bad
  |none=>.bad
 |.append,.ref n,[x]=>match h[n]? with
  |some (.lst ds)=>if ds.length<big then .ok .aV (h.set n (.lst (ds++[x])))else .bad
  |_=>.bad
 |.extend,.ref n,[.ref m]=>match h[n]?,h[m]? with
  |some (.lst ds),some (.lst es)=>if ds.length+es.length<=big then .ok .aV (h.set n (.lst (ds++es)))else .bad
  |_,_=>.bad
 |.pop,.ref n,[]=>match h[n]? with
  |some (.lst ds)=>match ds[ds.length - 1]? with
   |some x=>.ok x (h.set n (.lst ds.dropLast))
   |none=>.bad
  |_=>.bad
 |_,_,_=>.bad
noncomputable def yt(m:ME)(x:D)(h:Hh):Bool:=match m,x with
 |.join,.str _=>true
 |.join,_=>false
 |_,.ref n=>(bB h n).isSome
 |_,_=>false
noncomputable def m9(x:D):List (D×D)->Option D
 |[]=>none
 | (k,v) :: r=>match ig [] 1 k x with
  |some true=>some v
  |some false=>m9 x r
  |none=>none
abbrev Src:=List D×List (Nat×List D)
noncomputable def fP(h:Hh):D->Option Src
 |.tup ds=>some (ds,[])
 |.str s=>some (s.map λc=>.str [c],[])
 |.ref n=>(bB h n).map λds=>(ds,[(n,ds)])
 |_=>none
noncomputable def range(lo:Int)(n:Nat):List D:=(List.range n).map λ(i:Nat)=>.int (lo+i)
noncomputable def eL(hi:Int)(n:Nat):List D:=(List.range n).map λ(i:Nat)=>.int (hi - i)
noncomputable def dw:List D->Option Src
 |[.int j]=>if -(2 ^ 62)<=j/\j<2 ^ 62 then some (range 0 j.toNat,[])else none
 |[.int i,.int j]=>if -(2 ^ 62)<=i/\i<2 ^ 62/\-(2 ^ 62)<=j/\j<2 ^ 62 then some (range i (j - i).toNat,[])else none
 |[.int i,.int j,.int k]=>if k = -1/\-(2 ^ 62)<=i/\i<2 ^ 62/\-(2 ^ 62)<=j/\j<2 ^ 62 then some (eL i (i - j).toNat,[])else none
 |_=>none
noncomputable def jR:Int->List D->List D
 |_,[]=>[]
 |k,x :: xs=>.tup [.int k,x] :: jR (k+1) xs
noncomputable def Ad(a b:List D):Bool:=@decide (a=b) (Classical.propDecidable _)
def uc(a b:List D):Ad a b=true↔a=b:=@decide_eq_true_iff _ (Classical.propDecidable _)
@[simp] theorem Ae(a:List D):Ad a a=true:=(uc a a).mpr rfl
noncomputable def stays(h:Hh):List (Nat×List D)->Bool
 |[]=>true
 | (n,ds) :: r=>(match bB h n with|some es=>Ad es ds|none=>false)&&stays h r
noncomputable def cV:List Nat->List D->Fr->Option Fr
 |[],[],fr=>some fr
 |i :: is,d :: ds,fr=>cV is ds (fr.set i (some d))
 |_,_,_=>none
noncomputable def cI:T->D->Fr->Option Fr
 |.one i,d,fr=>some (fr.set i (some d))
 |.many l,.tup ds,fr=>cV l ds fr
 |_,_,_=>none
noncomputable def slots:T->List Nat
 |.one i=>[i]
 |.many l=>l
noncomputable def undef(t:T)(fr:Fr):Bool:=(slots t).all λi=>(fr[i]?.join).isNone
noncomputable def D3:D->Option (List D)
 |.tup ds=>some ds
 |_=>none
noncomputable def sO:D->Hh->R D
 |.tup ds,h=>.ok (.tup ds) h
 |.ref n,h=>match bB h n with
  |some ds=>if ds.length<=big then .ok (.tup ds) h else .bad
  |none=>.bad
 |_,_=>.bad
noncomputable def Lo(h:Hh):D->Option Src
 |.ref n=>(bB h n).map λds=>(ds,[(n,ds)])
 |_=>none
noncomputable def cX(f:D->Hh->R (Option D))(ck:List (Nat×List D)):List D->Hh->R (List D)
 |[],h=>if stays h ck then .ok [] h else .bad
 |d :: ds,h=>if stays h ck then (f d h).bind λo a=>(cX f ck ds a).bind λr b=>.ok (o.toList++r) b else .bad
noncomputable def forL(f:D->Fr->Hh->R (Fl×Fr))(ck:List (Nat×List D)):List D->Fr->Hh->R (Fl×Fr)
 |[],fr,h=>if stays h ck then .ok (.nx,fr) h else .bad
 |d :: ds,fr,h=>if stays h ck then (f d fr h).bind λp a=>match p.1 with
   |.nx=>forL f ck ds p.2 a
   |.ct=>forL f ck ds p.2 a
   |.bk=>.ok (.nx,p.2) a
   |.ret x=>.ok (.ret x,p.2) a
  else .bad
noncomputable def eg(t:Fr->Hh->R Bool)(f:Fr->Hh->R (Fl×Fr)):Nat->Fr->Hh->R (Fl×Fr)
 |0,_,_=>.bad
 |n+1,fr,h=>(t fr h).bind λb c=>if b then (f fr c).bind λp a=>match p.1 with
   |.nx=>eg t f n p.2 a
   |.ct=>eg t f n p.2 a
   |.bk=>.ok (.nx,p.2) a
   |.ret x=>.ok (.ret x,p.2) a
  else .ok (.nx,fr) c
abbrev aQ:=Nat->List D->Hh->R D
noncomputable def intOf:D->Option Int
 |.int i=>some i
 |_=>none
noncomputable def XA(h:Hh):D->Bool
 |.ref n=>match h[n]? with
  |some (.obj _ _)=>false
  |some (.b9 _ _)=>false
  |_=>true
 |_=>true
noncomputable def fT(c:Cl)(h:Hh):Option D->Option (Nat×List D)
 |some (.ref n)=>match h[n]? with
  |some (.obj c' ds)=>if c'=c then some (n,ds)else none
  |_=>none
 |_=>none
noncomputable def mG(c:Cl)(ds:List D)(k:Nat):Option (List D):=if c.nv<=k/\k<c.nl then (match ds[k]? with
  |some (.tup es)=>some es
  |_=>none)else none
noncomputable def BN(o:FU)(es as:List D)(h:Hh):R D:=match o,as with
 |.len,[]=>.ok (.int es.length) h
 |.lF,[]=>.ok (.bl (!es.isEmpty)) h
 |.RK,[]=>alloc es h
 |.ix,[.int j]=>R.of (bE es j) h
 |.yr,[.int j]=>alloc (cut es (some j) none) h
 |_,_=>.bad
noncomputable def BO(o:FM)(es as:List D):Option (D×List D):=match o,as with
 |.app,[x]=>if es.length<big then some (.aV,es++[x])else none
 |.pop,[]=>match es[es.length - 1]? with
  |some x=>some (x,es.dropLast)
  |none=>none
 |_,_=>none
noncomputable def FZ(c:Cl)(ds:List D)(k j:Nat):Option (List D):=(mG c ds k).bind λb=>(mG c ds j).bind λa=>match a[a.length - 1]? with
  |some y=>if b.length<big/\k≠j then some ((ds.set j (.tup a.dropLast)).set k (.tup (b++[y])))else none
  |none=>none
noncomputable def sP(c:Cl)(fr:Fr)(h:Hh):Es->Bool
 |.cons (.v i) _=>(fT c h fr[i]?.join).isSome
 |_=>false
noncomputable def lG(as:List D):List TP->Option (List D)
 |[]=>some []
 |.a j :: r=>as[j]?.bind λd=>(lG as r).map λl=>d :: l
 |.t j :: r=>as[j]?.bind λd=>(lG as r).map λl=>.tup [d] :: l
 |.c d :: r=>(lG as r).map λl=>d :: l
noncomputable def eN(n lo:Nat):Nat->List O
 |0=>[]
 |k+1=>.b9 n lo :: eN n (lo+1) k
mutual
noncomputable def ev(P:aQ):E->Fr->Hh->R D
 |.c d,_,h=>.ok d h
 |.v i,fr,h=>R.of (fr[i]?.join) h
 |.tup es,fr,h=>(bq P es fr h).bind λds e=>if ds.length<=big then .ok (.tup ds) e else .bad
 |.lst es,fr,h=>(bq P es fr h).bind λds e=>alloc ds e
 |.bin o a b,fr,h=>(ev P a fr h).bind λx e=>(ev P b fr e).bind λy g=>bP o x y g
 |.cmp o a b,fr,h=>(ev P a fr h).bind λx e=>(ev P b fr e).bind λy g=>R.of ((cop o x y g).map .bl) g
 |.nt a,fr,h=>(ev P a fr h).bind λx e=>match x with
   |.bl b=>.ok (.bl (!b)) e
   |_=>.bad
 |.neg a,fr,h=>(ev P a fr h).bind λx e=>match x with
   |.int i=>.ok (.int (-i)) e
   |_=>.bad
 |.an a b,fr,h=>(ev P a fr h).bind λx e=>match x with
   |.bl true=>ev P b fr e
   |.bl false=>.ok (.bl false) e
   |_=>.bad
 |.orr a b,fr,h=>(ev P a fr h).bind λx e=>match x with
   |.bl true=>.ok (.bl true) e
   |.bl false=>ev P b fr e
   |_=>.bad
 |.fS t a b,fr,h=>(aM P t fr h).bind λk e=>if k then ev P a fr e else ev P b fr e
 |.ix a b,fr,h=>(ev P a fr h).bind λx e=>(ev P b fr e).bind λy g=>R.of (eX x y g) g
 |.sl a lo hi,fr,h=>(ev P a fr h).bind λx e=>(gg P lo fr e).bind λl g=>(gg P hi fr g).bind λu q=>ir x l u q
 |.cl f es,fr,h=>(bq P es fr h).bind λds e=>P f ds e
 |.bi b es,fr,h=>(bq P es fr h).bind λds e=>dS b ds e
 |.me m o es,fr,h=>(ev P o fr h).bind λx e=>if yt m x e then (bq P es fr e).bind λds g=>fL m x ds g else .bad
 |.comp elt t it cond,fr,h=>(dj P it fr h).bind λs e=>if undef t fr then
   (cX (λd g=>match cI t d fr with
    |none=>.bad
    |some B=>(iI P cond B g).bind λk q=>if k then (ev P elt B q).bind λx C=>.ok (some x) C else .ok none q) s.2 s.1 e).bind λds g=>alloc ds g else .bad
 |.gP it,fr,h=>(dj P it fr h).bind λs e=>alloc s.1 e
 |.iY a,fr,h=>(ev P a fr h).bind λx e=>sO x e
 |.fld c i k,fr,h=>match fT c h fr[i]?.join with
  |some (_,ds)=>if k<c.nv then R.of ds[k]? h else .bad
  |none=>.bad
 |.fu c o i k es,fr,h=>if (fT c h fr[i]?.join).isSome then (bq P es fr h).bind λr e=>match fT c e fr[i]?.join with
   |some (_,ds)=>(R.of (mG c ds k) e).bind λz g=>BN o z r g
   |none=>.bad
  else .bad
 |.fm c o i k es,fr,h=>if (fT c h fr[i]?.join).isSome then (bq P es fr h).bind λr e=>match fT c e fr[i]?.join with
   |some (n,ds)=>(R.of ((mG c ds k).bind λz=>BO o z r) e).bind λp g=>.ok p.1 (g.set n (.obj c (ds.set k (.tup p.2))))
   |none=>.bad
  else .bad
 |.mv c i k j,fr,h=>match fT c h fr[i]?.join with
  |some (n,ds)=>(R.of (FZ c ds k j) h).bind λA g=>.ok .aV (g.set n (.obj c A))
  |none=>.bad
 |.bJ c f es,fr,h=>if sP c fr h es then (bq P es fr h).bind λds e=>P f ds e else .bad
noncomputable def bq(P:aQ):Es->Fr->Hh->R (List D)
 |.nil,_,h=>.ok [] h
 |.cons e es,fr,h=>(ev P e fr h).bind λd a=>(bq P es fr a).bind λds b=>.ok (d :: ds) b
noncomputable def gg(P:aQ):Eo->Fr->Hh->R (Option Int)
 |.no,_,h=>.ok none h
 |.yes e,fr,h=>(ev P e fr h).bind λd a=>R.of ((intOf d).map some) a
noncomputable def iI(P:aQ):Eo->Fr->Hh->R Bool
 |.no,_,h=>.ok true h
 |.yes e,fr,h=>aM P e fr h
noncomputable def aM(P:aQ):E->Fr->Hh->R Bool
 |.an a b,fr,h=>(aM P a fr h).bind λk c=>if k then aM P b fr c else .ok false c
 |.orr a b,fr,h=>(aM P a fr h).bind λk c=>if k then .ok true c else aM P b fr c
 |.nt a,fr,h=>(aM P a fr h).bind λk c=>.ok (!k) c
 |e,fr,h=>(ev P e fr h).bind λx c=>R.of (truthy c x) c
noncomputable def dj(P:aQ):It->Fr->Hh->R Src
 |.seq e,fr,h=>(ev P e fr h).bind λx b=>R.of (fP b x) b
 |.fh es,fr,h=>(bq P es fr h).bind λds b=>R.of (dw ds) b
 |.rev a,fr,h=>(ev P a fr h).bind λx b=>R.of ((D3 x).map λds=>(ds.reverse,[])) b
end
noncomputable def qU(P:aQ)(c:Cl)(x:Option D)(f:Nat)(h:Hh):R D:=match fT c h x with
 |some (_,ds)=>(P f [] h).bind λ_ a=>if ds.length=c.nm.length then .ok (.ref a.length) (a++.obj c ds :: eN a.length c.nv (ds.length - c.nv))else .bad
 |none=>.bad
mutual
noncomputable def ex(P:aQ)(w:Nat):S->Fr->Hh->R (Fl×Fr)
 |.set i e,fr,h=>(ev P e fr h).bind λx l=>.ok (.nx,fr.set i (some x)) l
 |.exp e,fr,h=>(ev P e fr h).bind λ_ l=>.ok (.nx,fr) l
 |.ret e,fr,h=>(ev P e fr h).bind λx l=>.ok (.ret x,fr) l
 |.iff t a b,fr,h=>(aM P t fr h).bind λk l=>if k then exs P w a fr l else exs P w b fr l
 |.for t it b,fr,h=>(dj P it fr h).bind λs l=>forL (λd p o=>match cI t d p with
   |some q=>exs P w b q o
   |none=>.bad) s.2 s.1 fr l
 |.pY t b,fr,h=>eg (λp o=>aM P t p o) (λp o=>exs P w b p o) w fr h
 |.fC _,_,_=>.bad
 |.fst c i k e,fr,h=>(ev P e fr h).bind λx l=>match fT c l fr[i]?.join with
  |some (n,ds)=>if k<c.nv/\k<ds.length then .ok (.nx,fr) (l.set n (.obj c (ds.set k x)))else .bad
  |none=>.bad
 |.pZ c i k,fr,h=>match fT c h fr[i]?.join with
  |some (n,ds)=>if (c.nv<=k/\k<c.nl)/\k<ds.length then .ok (.nx,fr) (h.set n (.obj c (ds.set k (.tup [])))++[.b9 n k])else .bad
  |none=>.bad
 |.new c i f tp es,fr,h=>(bq P es fr h).bind λr y=>(P f [] y).bind λ_ l=>(R.of (lG r tp) l).bind λds o=>if ds.length=c.nm.length then .ok (.nx,fr.set i (some (.ref o.length))) (o++.obj c ds :: eN o.length c.nv (ds.length - c.nv))else .bad
 |.qT c i _ f,fr,h=>(qU P c fr[i]?.join f h).bind λd l=>.ok (.ret d,fr) l
 |.tw c j _ g k,fr,h=>(qU P c fr[k]?.join g h).bind λd l=>.ok (.nx,fr.set j (some d)) l
noncomputable def exs(P:aQ)(w:Nat):Ss->Fr->Hh->R (Fl×Fr)
 |.nil,fr,h=>.ok (.nx,fr) h
 |.cons s ss,fr,h=>(ex P w s fr h).bind λp a=>match p.1 with
   |.nx=>exs P w ss p.2 a
   |_=>.ok p a
end
def fj(P:aQ)(w:Nat)(fr:Fr)(h:Hh):(∀e,ex P w (.exp e) fr h=((ev P e fr h).bind λ_ h1=>.ok (.nx,fr) h1))
 /\(∀i e,ex P w (.set i e) fr h=((ev P e fr h).bind λx h1=>.ok (.nx,fr.set i (some x)) h1))
 /\(∀e,ex P w (.exp e) fr h=((ev P e fr h).bind λ_ h1=>.ok (.nx,fr) h1))
 /\(∀e,ex P w (.ret e) fr h=((ev P e fr h).bind λx h1=>.ok (.ret x,fr) h1))
 /\(∀t a b,ex P w (.iff t a b) fr h=((aM P t fr h).bind λk h1=>if k then exs P w a fr h1 else exs P w b fr h1))
 /\(∀t it b,ex P w (.for t it b) fr h=((dj P it fr h).bind λs h1=>forL (λd ao h2=>match cI t d ao with
   |some cF=>exs P w b cF h2
   |none=>.bad) s.2 s.1 fr h1))
 /\(∀t b,ex P w (.pY t b) fr h=(eg (λao h2=>aM P t ao h2) (λao h2=>exs P w b ao h2) w fr h))
 /\(∀x1,ex P w (.fC x1) fr h=(.bad))
 /\(∀c i k e,ex P w (.fst c i k e) fr h=((ev P e fr h).bind λx h1=>match fT c h1 fr[i]?.join with
  |some (n,ds)=>if k<c.nv/\k<ds.length then .ok (.nx,fr) (h1.set n (.obj c (ds.set k x)))else .bad
  |none=>.bad))
 /\(∀c i k,ex P w (.pZ c i k) fr h=(match fT c h fr[i]?.join with
  |some (n,ds)=>if (c.nv<=k/\k<c.nl)/\k<ds.length then .ok (.nx,fr) (h.set n (.obj c (ds.set k (.tup [])))++[.b9 n k])else .bad
  |none=>.bad))
 /\(∀c i f tp es,ex P w (.new c i f tp es) fr h=((bq P es fr h).bind λas h0=>(P f [] h0).bind λ_ h1=>(R.of (lG as tp) h1).bind λds h2=>if ds.length=c.nm.length then .ok (.nx,fr.set i (some (.ref h2.length))) (h2++.obj c ds :: eN h2.length c.nv (ds.length - c.nv))else .bad))
 /\(∀c i j f,ex P w (.qT c i j f) fr h=((qU P c fr[i]?.join f h).bind λd h1=>.ok (.ret d,fr) h1))
 /\(∀c j f g k,ex P w (.tw c j f g k) fr h=((qU P c fr[k]?.join g h).bind λd h1=>.ok (.nx,fr.set j (some d)) h1))
 /\True:=by and_intros<;>intros<;>first|rfl|trivial
structure Fn where
 np:Nat
 ns:Nat
 body:Ss
noncomputable def dz(fn:Fn)(ds:List D):Fr:=ds.map some++List.replicate (fn.ns - fn.np) none
noncomputable def endOf(r:R (Fl×Fr)):R D:=r.bind λp h=>match p.1 with
 |.ret d=>.ok d h
 |.nx=>.ok .aV h
 |_=>.bad
noncomputable def run(F:List Fn)(w:Nat):Nat->aQ
 |0,_,_,_=>.bad
 |n+1,f,ds,h=>match F[f]? with
  |some a=>if ds.length=a.np then endOf (exs (run F w n) w a.body (dz a ds) h)else .bad
  |none=>.bad
def gz(F:List Fn)(w n f:Nat)(ds:List D)(h:Hh):run F w (n+1) f ds h=match F[f]? with
  |some a=>if ds.length=a.np then endOf (exs (run F w n) w a.body (dz a ds) h)else .bad
  |none=>.bad:=rfl
end Ev
namespace Sm
open PySem PySem.Spec PyProof.Rows L2
noncomputable def ay(l:List Nat):Str:=⟨l.toArray⟩
def dg(l:List Nat):(ay l).length=l.length:=by simp[ay,Str.length]
def sQ{a b:List Nat}(h:ay a=ay b):a=b:=by
 have c:a.toArray=b.toArray:=Z0 Str.cps h;simpa using Z0 Array.toList c
def gQ:Ev.big=sizeLine:=by rw[aaG];rfl
section
variable(K:PySem.W.Frag)
mutual
def RV(H:Hp)(r:List Addr):Ev.D->V->Prop
 |.aV,v=>v=.aV
 |.bl b,v=>v=.bl b
 |.int i,v=>v=.int i
 |.str s,v=>v=.str (ay s)/\s.length<=sizeLine
 |.ref n,v=>∃a,v=.ref a/\r[n]?=some a
 |.tup ds,v=>∃a vs,v=.ref a/\cU K H a vs/\aG H r ds vs
def aG(H:Hp)(r:List Addr):List Ev.D->List V->Prop
 |[],vs=>vs=[]
 |d :: ds,vs=>∃v w,vs=v :: w/\RV H r d v/\aG H r ds w
end
def Af(H:Hp)(a:Addr)(vs:List V):Prop:=(∃o,H a=some (.bT o (.lst vs)))\/
 ∃(o:Obj) (its:Array Value) (n:Nat),K.lookup a=some o/\o.cls=.type "list" /\o.dict=none/\o.data=.seq its n/\its.size<=sizeLine/\Vals vs its.toList
def RO(H:Hp)(r:List Addr):Ev.O->Addr->Prop
 |.lst ds,a=>∃vs,H a=some (.lst vs)/\aG K H r ds vs
 |.bT ds,a=>∃vs,Af K H a vs/\aG K H r ds vs
 |.obj _ _,_=>True
 |.b9 _ _,_=>True
def ud (f:Str):Prop:=f = "steps" \/f = "texts" \/f = "rows" \/f = "gone"
noncomputable def UE(es:List Int):List (Key×V):=es.map λi=>(Sum.inl i,V.bl true)
structure oh(H:Hp)(r:List Addr)(h:Ev.Hh)(n:Nat)(c:Ev.Cl)(ds:List Ev.D)(a dx:Addr)(fs:List (Str×V)):Prop where
 at_:r[n]?=some a
 ins:∃C,PySem.W.nsIn K mainGlobals (ay c.cn)=some (some (.ref C))/\H a=some (.ins C dx fs)
 len:ds.length=c.nm.length
 few:fs.length<1000
 nd:c.nm.Nodup
 no:∀x,x∉c.nm.map ay->fs.lookup x=none
 val:∀(k:Nat) f d,k<c.nv->c.nm[k]?=some f->ds[k]?=some d->∃v,fs.lookup (ay f)=some v/\RV K H r d v
 lst:∀(k:Nat) f d,c.nv<=k/\k<c.nl->c.nm[k]?=some f->ds[k]?=some d->∃es,∃m:Nat,∃b vs,d=.tup es/\fs.lookup (ay f)=some (.ref b)/\r[m]?=some b/\h[m]?=some (.b9 n k)/\H b=some (.lst vs)/\aG K H r es vs
 om:∀(k:Nat) f d,c.nv<=k/\c.nl<=k->c.nm[k]?=some f->ds[k]?=some d->∃es:List Int,∃m:Nat,∃b,d=.tup (es.map .int)/\fs.lookup (ay f)=some (.ref b)/\r[m]?=some b/\h[m]?=some (.b9 n k)/\H b=some (.dK (UE es))
noncomputable def vE:Ev.O->Bool
 |.lst _=>true
 |.b9 _ _=>true
 |_=>false
def Ag(o:HO):Prop:=(∃vs,o=.lst vs)\/∃kvs,o=.dK kvs
structure OX(H:Hp)(r:List Addr)(h:Ev.Hh):Prop where
 ob:∀(n:Nat) c ds,h[n]?=some (.obj c ds)->∃a dx fs,oh K H r h n c ds a dx fs
 pv:∀(m n k:Nat),h[m]?=some (.b9 n k)->∃a o,r[m]?=some a/\H a=some o/\Ag o
 jp:∀(m m':Nat) a n k o,r[m]?=some a->r[m']?=some a->h[m]?=some (.b9 n k)->h[m']?=some o->vE o=true->m=m'
 jo:∀(n n':Nat) a c ds c' ds',r[n]?=some a->r[n']?=some a->h[n]?=some (.obj c ds)->h[n']?=some (.obj c' ds')->n=n'
structure HR(H:Hp)(r:List Addr)(h:Ev.Hh):Prop where
 len:r.length=h.length
 ob:∀(n:Nat) o,h[n]?=some o->∃a,r[n]?=some a/\RO K H r o a
 inj:∀(n m:Nat) a x y,r[n]?=some a->r[m]?=some a->h[n]?=some (.lst x)->h[m]?=some (.lst y)->n=m
 ox:OX K H r h
structure Fm(r r':List Addr)(H H':Hp):Prop where
 pre:∀(n:Nat) a,r[n]?=some a->r'[n]?=some a
 new:∀a∈r',a∈r\/H a=none
 keep:∀a o,H a=some o->a∉r->H' a=some o
 tups:∀a vs,cU K H a vs->cU K H' a vs
 fin:∀a C dx fs,H a=some (.ins C dx fs)->∃fs',H' a=some (.ins C dx fs')/\∀f,ud f->fs'.lookup f=fs.lookup f
end
section
variable{K:PySem.W.Frag}{H H1 H2:Hp}{r r1 r2:List Addr}{h:Ev.Hh}
def Fm.refl:Fm K r r H H:=⟨λ_ _ e=>e,λ_ e=>.inl e,λ_ _ e _=>e,λ_ _ e=>e
 ,λ_ _ _ fs e=>⟨fs,e,λ_ _=>rfl⟩
 ⟩
theorem Fm.trans(a:Fm K r r1 H H1)(b:Fm K r1 r2 H1 H2):Fm K r r2 H H2 where
 pre:=λn x e=>b.pre n x (a.pre n x e)
 new:=λx e=>by
  rcases b.new x e with q|q
  .exact a.new x q
  .by_cases z:x∈r
   .exact .inl z
   .refine .inr ?_;cases w:H x with
    |none=>rfl
    |some o=>rw[a.keep x o w z]at q;cases q
 keep:=λx o e n=>by
  refine b.keep x o (a.keep x o e n) λz=>?_;rcases a.new x z with q|q
  .exact n q
  .rw[e]at q;cases q
 tups:=λx c e=>b.tups x c (a.tups x c e)
 fin:=λx C d fs e=>by
  obtain⟨VM,g,i⟩:=a.fin x C d fs e;obtain⟨Lq,j,k⟩:=b.fin x C d VM g;exact⟨Lq,j,λf z=>(k f z).trans (i f z)⟩
mutual
theorem RV.grow(f:∀(n:Nat) a,r[n]?=some a->r1[n]?=some a)(g:∀a vs,cU K H a vs->cU K H1 a vs):∀{d:Ev.D}{v:V},RV K H r d v->RV K H1 r1 d v
 |.aV,_,e=>e
 |.bl _,_,e=>e
 |.int _,_,e=>e
 |.str _,_,e=>e
 |.ref n,_,⟨a,e,z⟩=>⟨a,e,f n a z⟩
 |.tup ds,_,⟨a,vs,e,z,q⟩=>⟨a,vs,e,g a vs z,aG.grow f g q⟩
theorem aG.grow(f:∀(n:Nat) a,r[n]?=some a->r1[n]?=some a)(g:∀a vs,cU K H a vs->cU K H1 a vs):∀{ds:List Ev.D}{vs:List V},aG K H r ds vs->aG K H1 r1 ds vs
 |[],_,e=>e
 |_ :: _,_,⟨v,w,e,z,q⟩=>⟨v,w,e,RV.grow f g z,aG.grow f g q⟩
end
def RV.mono(f:Fm K r r1 H H1){d:Ev.D}{v:V}(q:RV K H r d v):RV K H1 r1 d v:=q.grow f.pre f.tups
def aG.mono(f:Fm K r r1 H H1){ds:List Ev.D}{vs:List V}(q:aG K H r ds vs):aG K H1 r1 ds vs:=q.grow f.pre f.tups
def aG.nil:aG K H r [] []:=by simp[aG]
def aG.cons{d:Ev.D}{v:V}{ds:List Ev.D}{vs:List V}(a:RV K H r d v)(b:aG K H r ds vs):aG K H r (d :: ds) (v :: vs):=by
 simp only[aG];exact⟨v,vs,rfl,a,b⟩
theorem aG.length:∀{ds:List Ev.D}{vs:List V},aG K H r ds vs->vs.length=ds.length
 |[],_,e=>by simp only[aG]at e;subst e;rfl
 |_ :: _,_,e=>by
  simp only[aG]at e;obtain⟨v,w,rfl,_,q⟩:=e;simp[aG.length q]
theorem aG.get:∀{ds:List Ev.D}{vs:List V}{i:Nat}{d:Ev.D},aG K H r ds vs->ds[i]?=some d->∃v,vs[i]?=some v/\RV K H r d v
 |[],_,_,_,_,e=>by simp at e
 |_ :: _,_,0,_,h,e=>by
  simp only[aG]at h;obtain⟨v,w,rfl,z,q⟩:=h;simp at e;subst e;exact⟨v,by simp,z⟩
 |_ :: _,_,i+1,_,h,e=>by
  simp only[aG]at h;obtain⟨v,w,rfl,z,q⟩:=h;obtain⟨u,a,b⟩:=aG.get (i:=i) q (by simpa using e);exact⟨u,by simpa using a,b⟩
theorem aG.append:∀{ds es:List Ev.D}{vs ws:List V},aG K H r ds vs->aG K H r es ws->aG K H r (ds++es) (vs++ws)
 |[],_,_,_,a,b=>by simp only[aG]at a;subst a;simpa using b
 |_ :: _,_,_,_,a,b=>by
  simp only[aG]at a;obtain⟨v,w,rfl,z,q⟩:=a;simp only[aav];exact .cons z (aG.append q b)
theorem aG.take:∀{ds:List Ev.D}{vs:List V}(n:Nat),aG K H r ds vs->aG K H r (ds.take n) (vs.take n)
 |_,_,0,_=>by simp[aG]
 |[],_,_+1,a=>by simp only[aG]at a;subst a;simp[aG]
 |_ :: _,_,n+1,a=>by
  simp only[aG]at a;obtain⟨v,w,rfl,z,q⟩:=a;simp only[aak];exact .cons z (aG.take n q)
theorem aG.drop:∀{ds:List Ev.D}{vs:List V}(n:Nat),aG K H r ds vs->aG K H r (ds.drop n) (vs.drop n)
 |_,_,0,a=>by simpa using a
 |[],_,_+1,a=>by simp only[aG]at a;subst a;simp[aG]
 |_ :: _,_,n+1,a=>by
  simp only[aG]at a;obtain⟨v,w,rfl,z,q⟩:=a;simp only[aa2];exact aG.drop n q
theorem aG.reverse:∀{ds:List Ev.D}{vs:List V},aG K H r ds vs->aG K H r ds.reverse vs.reverse
 |[],_,a=>by simp only[aG]at a;subst a;simp[aG]
 |_ :: _,_,a=>by
  simp only[aG]at a;obtain⟨v,w,rfl,z,q⟩:=a;simp only[Z3];exact(aG.reverse q).append (.cons z .nil)
theorem aG.rep{ds:List Ev.D}{vs:List V}(a:aG K H r ds vs):∀k:Nat,aG K H r (Ev.rep k ds) (Ev.rep k vs)
 |0=>by simp[Ev.rep,aG]
 |k+1=>by
  have h:=aG.rep a k;simp only[Ev.rep,ZV,aaV]at h ⊢;exact a.append h
def Fm.laid{p:Addr}{o:HO}(hp:H p=none):Fm K r (r++[p]) H (upd H p o) where
 pre:=λn a e=>by rw[gV (List.getElem?_eq_some_iff.mp e).1];exact e
 new:=λa e=>by
  rcases List.mem_append.mp e with q|q
  .exact .inl q
  .rw[Z8]at q;subst q;exact .inr hp
 keep:=λa b e _=>by rw[aC (bA e hp)];exact e
 tups:=λa c e=>by
  rcases e with (e|⟨b,e⟩)|e
  .exact .inl (.inl (by rw[aC (bA e hp)];exact e))
  .exact .inl (.inr ⟨b,by rw[aC (bA e hp)];exact e⟩)
  .exact .inr e
 fin:=λa C d fs e=>⟨fs,by rw[aC (bA e hp)];exact e,λ_ _=>rfl⟩
def Fm.tup{p:Addr}{o:HO}(hp:H p=none):Fm K r r H (upd H p o) where
 pre:=λn a e=>e
 new:=λa e=>.inl e
 keep:=λa b e _=>by rw[aC (bA e hp)];exact e
 tups:=(Fm.laid (r:=r) hp).tups
 fin:=(Fm.laid (K:=K) (r:=r) hp).fin
def oh.go{n:Nat}{c:Ev.Cl}{ds:List Ev.D}{a dx:Addr}{fs:List (Str×V)}{h1:Ev.Hh}(q:oh K H r h n c ds a dx fs)(f:∀(n:Nat) a,r[n]?=some a->r1[n]?=some a)(g:∀a vs,cU K H a vs->cU K H1 a vs)(hi:∀x,H a=some x->H1 a=some x)
  (hp:∀m k:Nat,h[m]?=some (.b9 n k)->h1[m]?=some (.b9 n k)) (hl:∀(m:Nat) b k x,r[m]?=some b->h[m]?=some (.b9 n k)->H b=some x->H1 b=some x):oh K H1 r1 h1 n c ds a dx fs where
 at_:=f _ _ q.at_
 ins:=let ⟨C,e,i⟩:=q.ins;⟨C,e,hi _ i⟩
 len:=q.len
 few:=q.few
 nd:=q.nd
 no:=q.no
 val:=λk x d z e i=>by
  obtain⟨v,j,l⟩:=q.val k x d z e i;exact⟨v,j,l.grow f g⟩
 lst:=λk x d z e i=>by
  obtain⟨y,m,b,vs,j,l,o,p,A,B⟩:=q.lst k x d z e i;exact⟨y,m,b,vs,j,l,f _ _ o,hp m k p,hl m b k _ o p A,B.grow f g⟩
 om:=λk x d z e i=>by
  obtain⟨y,m,b,j,l,o,p,A⟩:=q.om k x d z e i;exact⟨y,m,b,j,l,f _ _ o,hp m k p,hl m b k _ o p A⟩
noncomputable def oz:Ev.O->Bool
 |.obj _ _=>true
 |.b9 _ _=>true
 |_=>false
theorem OX.go{h1:Ev.Hh}(q:OX K H r h)(f:∀(n:Nat) a,r[n]?=some a->r1[n]?=some a)(g:∀a vs,cU K H a vs->cU K H1 a vs)(e1:∀(n:Nat) o,oz o=true->h1[n]?=some o->h[n]?=some o)(e2:∀m n k:Nat,h[m]?=some (.b9 n k)->h1[m]?=some (.b9 n k))
  (kp:∀(n:Nat) o a x,oz o=true->h[n]?=some o->r[n]?=some a->H a=some x->H1 a=some x)
  (lj:∀(m:Nat) o a,vE o=true->h1[m]?=some o->r1[m]?=some a->(∃o0,vE o0=true/\h[m]?=some o0/\r[m]?=some a)\/∀m' n k:Nat,h[m']?=some (.b9 n k)->r[m']?≠some a):OX K H1 r1 h1 where
 ob:=λn c ds e=>by
  have d:=e1 n _ rfl e;obtain⟨a,Q,fs,z⟩:=q.ob n c ds d;exact⟨a,Q,fs,z.go f g (λx w=>kp n _ a x rfl d z.at_ w) (λm k w=>e2 m n k w) λm b k x B C F=>kp m _ b x rfl C B F⟩
 pv:=λm n k e=>by
  have d:=e1 m _ rfl e;obtain⟨a,o,i,l,p⟩:=q.pv m n k d;exact⟨a,o,f _ _ i,kp m _ a o rfl d i l,p⟩
 jp:=λm m' a n k o i l p G W=>by
  have d:=e1 m _ rfl p;obtain⟨X,x,j,I,_⟩:=q.pv m n k d;have y:=f _ _ j;rw[i]at y;cases y;rcases lj m' o a W G l with ⟨o0,B,C,F⟩|w
  .exact q.jp m m' a n k o0 j F d C B
  .exact absurd j (w m n k d)
 jo:=λn J a c ds L A i l p G=>by
  have M:=e1 n _ rfl p;have N:=e1 J _ rfl G;obtain⟨Y,_,_,j⟩:=q.ob n c ds M;obtain⟨Z,_,_,I⟩:=q.ob J L A N;have y:=f _ _ j.at_;have P:=f _ _ I.at_;rw[i]at y;rw[l]at P;cases y;cases P;exact q.jo n J a c ds L A j.at_ I.at_ M N
def OX.more(q:OX K H r h)(f:Fm K r r H H1)(k:∀b o,H b=some o->H1 b=some o):OX K H1 r h:=
 q.go f.pre f.tups (λ_ _ _ e=>e) (λ_ _ _ e=>e) (λ_ _ a x _ _ _ e=>k a x e) λm o a c d g=>.inl ⟨o,c,d,g⟩
def OX.push{p:Addr}{o:Ev.O}(q:OX K H r h)(hl:r.length=h.length)(ho:oz o=false)(hp:∀m n k:Nat,h[m]?=some (.b9 n k)->r[m]?≠some p)(f:∀a vs,cU K H a vs->cU K H1 a vs)(k:∀b x,H b=some x->H1 b=some x):OX K H1 (r++[p]) (h++[o]):=by
 have d:∀(n:Nat) x,(h++[o])[n]?=some x->h[n]?=some x\/(n=h.length/\x=o):=λn x e=>by
  by_cases g:n<h.length
  .rw[gV g]at e;exact .inl e
  .have i:=(List.getElem?_eq_some_iff.mp e).1;simp only[ZX,aal]at i;have j:n=h.length:=by omega
   subst j;simp at e;exact .inr ⟨rfl,e.symm⟩
 refine q.go (λn a e=>by rw[gV (List.getElem?_eq_some_iff.mp e).1];exact e) f (λn x z e=>?_) (λm n k e=>by rw[gV (List.getElem?_eq_some_iff.mp e).1];exact e) (λ_ _ a x _ _ _ e=>k a x e) λm x a l y c=>?_
 .rcases d n x e with e|⟨_,e⟩
  .exact e
  .subst e;rw[ho]at z;cases z
 .rcases d m x y with e|⟨e,_⟩
  .rw[gV (by rw[hl];exact(List.getElem?_eq_some_iff.mp e).1)]at c;exact .inl ⟨x,l,e,c⟩
  .subst e;rw[<-hl]at c;simp at c;subst c;exact .inr hp
def OX.fresh{p:Addr}(q:OX K H r h)(hp:H p=none):∀m n k:Nat,h[m]?=some (.b9 n k)->r[m]?≠some p:=λm n k e z=>by
 obtain⟨a,o,b,c,_⟩:=q.pv m n k e;rw[z]at b;cases b;rw[hp]at c;cases c
def kG{p:Addr}{o:HO}(hp:H p=none):∀b x,H b=some x->upd H p o b=some x:=λb x e=>by rw[aC (bA e hp)];exact e
def OX.wr{n:Nat}{a:Addr}{o o2:Ev.O}{y:HO}(q:OX K H r h)(hn:h[n]?=some o)(ho:vE o=true)(h1:oz o=false)(h2:oz o2=false)(vF:r[n]?=some a)(hi:∀C dx fs,H a≠some (.ins C dx fs))(f:Fm K r r H (upd H a y)):OX K (upd H a y) r (h.set n o2):=by
 have p:=(List.getElem?_eq_some_iff.mp hn).1;refine q.go f.pre f.tups (λm x z e=>?_) (λm i k e=>?_) (λm x b y z e g A=>?_) λm x b B j l=>?_
 .by_cases d:n=m
  .subst d;rw[ZP p]at e;cases e;rw[h2]at z;cases z
  .rw[Kc d]at e;exact e
 .by_cases d:n=m
  .subst d;rw[hn]at e;cases e;cases h1
  .rw[Kc d];exact e
 .have:b≠a:=λF=>by
   subst F;cases x with
   |obj c ds=>
    obtain⟨_,dx,fs,w⟩:=q.ob m c ds e;have:=w.at_;rw[g]at this;cases this;obtain⟨C,_,G⟩:=w.ins;exact hi _ _ _ G
   |b9 i k=>
    have:=q.jp m n b i k o g vF e hn ho;subst this;rw[hn]at e;cases e;cases h1
   |_=>cases z
  rw[aC this];exact A
 .by_cases d:n=m
  .subst d;exact .inl ⟨o,ho,hn,l⟩
  .rw[Kc d]at j;exact .inl ⟨x,B,j,l⟩
theorem RO.mono{o:Ev.O}{a:Addr}(f:Fm K r r1 H H1)(q:RO K H r o a)(hl:∀ds vs,o=.lst ds->H a=some (.lst vs)->H1 a=some (.lst vs))(hf:∀ob vs,H a=some (.bT ob vs)->H1 a=some (.bT ob vs))
  : RO K H1 r1 o a:=by
 cases o with
 |lst ds=>
  obtain⟨vs,e,z⟩:=q;exact⟨vs,hl ds vs rfl e,z.mono f⟩
 |bT ds=>
  obtain⟨vs,e,z⟩:=q;refine⟨vs,?_,z.mono f⟩;rcases e with ⟨ob,e⟩|e
  .exact .inl ⟨ob,hf _ _ e⟩
  .exact .inr e
 |obj _ _=>trivial
 |b9 _ _=>trivial
theorem HR.tup{p:Addr}{o:HO}(hr:HR K H r h)(hp:H p=none):HR K (upd H p o) r h where
 len:=hr.len
 ob:=λn ob e=>by
  obtain⟨a,b,q⟩:=hr.ob n ob e;exact⟨a,b,q.mono (Fm.tup hp) (λ_ c _ z=>by rw[aC (bA z hp)];exact z) (λ_ _ z=>by rw[aC (bA z hp)];exact z)
   ⟩
 inj:=hr.inj
 ox:=hr.ox.more (.tup hp) (kG hp)
theorem HR.lst{p:Addr}{ds:List Ev.D}{vs:List V}(hr:HR K H r h)(hp:H p=none)(q:aG K H r ds vs):HR K (upd H p (.lst vs)) (r++[p]) (h++[.lst ds]) where
 len:=by simp[hr.len]
 ob:=λn ob e=>by
  by_cases M:n<h.length
  .rw[gV M]at e;obtain⟨a,l,z⟩:=hr.ob n ob e;exact⟨a,(Fm.laid (K:=K) (o:=.lst vs) hp).pre n a l,z.mono (Fm.laid hp) (λ_ vs _ z=>by rw[aC (bA z hp)];exact z) (λ_ _ z=>by rw[aC (bA z hp)];exact z)
    ⟩
  .have f:=(List.getElem?_eq_some_iff.mp e).1;simp only[ZX,aal]at f;have A:n=h.length:=by omega
   subst A;simp at e;subst e;exact⟨p,by rw[<-hr.len];simp,vs,bz,q.mono (Fm.laid hp)⟩
 inj:=λn m a x y l f A G=>by
  have out:∀(k:Nat) z,(h++[Ev.O.lst ds])[k]?=some (.lst z)->(r++[p])[k]?=some a->(k<h.length/\r[k]?=some a/\h[k]?=some (.lst z)/\a≠p)\/(k=h.length/\a=p):=λk z g c=>by
   by_cases B:k<h.length
   .rw[gV B]at g;rw[gV (by rw[hr.len];exact B)]at c;obtain⟨b,i,N,C,_⟩:=hr.ob k _ g;rw[c]at i;cases i;exact .inl ⟨B,c,g,bA C hp⟩
   .have i:=(List.getElem?_eq_some_iff.mp g).1;simp only[ZX,aal]at i;have C:k=r.length:=by rw[hr.len];omega
    subst C;simp at c;exact .inr ⟨hr.len,c.symm⟩
  rcases out n x A l with ⟨I,F,P,Q⟩|⟨I,F⟩
  .rcases out m y G f with ⟨j,d,J,L⟩|⟨j,d⟩
   .exact hr.inj n m a x y F d P J
   .exact absurd d Q
  .rcases out m y G f with ⟨j,d,J,L⟩|⟨j,d⟩
   .exact absurd F L
   .rw[I,j]
 ox:=hr.ox.push hr.len rfl (hr.ox.fresh hp) (Fm.laid (K:=K) (r:=r) hp).tups (kG hp)
def HR.read{n:Nat}{ds:List Ev.D}(hr:HR K H r h)(e:Ev.bB h n=some ds):∃a vs,r[n]?=some a/\fz K H a vs/\aG K H r ds vs:=by
 unfold Ev.bB at e;split at e
 .rename_i z;cases e;obtain⟨a,c,vs,b,d⟩:=hr.ob n _ z;exact⟨a,vs,c,.inl (.inl b),d⟩
 .rename_i z;cases e;obtain⟨a,c,vs,b,d⟩:=hr.ob n _ z;refine⟨a,vs,c,?_,d⟩;rcases b with ⟨f,b⟩|b
  .exact .inl (.inr ⟨f,b⟩)
  .exact .inr b
 .cases e
def Fm.write{a:Addr}{vs ws:List V}(ha:H a=some (.lst vs))(hm:a∈r):Fm K r r H (upd H a (.lst ws)) where
 pre:=λn b e=>e
 new:=λb e=>.inl e
 keep:=λb c e n=>by rw[aC (λz=>n (by rw[z];exact hm))];exact e
 tups:=λb d e=>by
  rcases e with (e|⟨c,e⟩)|e
  .exact .inl (.inl (by rw[aC (jP e ha (by intro z;cases z))];exact e))
  .exact .inl (.inr ⟨c,by rw[aC (jP e ha (by intro z;cases z))];exact e⟩)
  .exact .inr e
 fin:=λb C f fs e=>⟨fs,by rw[aC (jP e ha (by intro z;cases z))];exact e,λ_ _=>rfl⟩
theorem HR.write{n:Nat}{a:Addr}{ds es:List Ev.D}{vs ws:List V}(hr:HR K H r h)(hn:h[n]?=some (.lst ds))(vF:r[n]?=some a)(ha:H a=some (.lst vs))(q:aG K H r es ws) :
  HR K (upd H a (.lst ws)) r (h.set n (.lst es)) where
 len:=by simp[hr.len]
 ob:=λm ob e=>by
  have f:=Fm.write (K:=K) (ws:=ws) ha (ZM vF);by_cases g:m=n
  .subst g;rw[ZP (List.getElem?_eq_some_iff.mp hn).1]at e;cases e;exact⟨a,vF,ws,bz,q.mono f⟩
  .rw[Kc (λz=>g z.symm)]at e;obtain⟨b,c,z⟩:=hr.ob m ob e;refine⟨b,c,z.mono f (λRL o p d=>?_) (λXS o d=>by rw[aC (jP d ha (by intro z;cases z))];exact d)
    ⟩
   by_cases i:b=a
   .subst i;subst p;exact absurd (hr.inj m n b RL ds c vF e hn) g
   .rw[aC i];exact d
 inj:=λk m b x y c A B F=>by
  have back:∀(j:Nat) z,(h.set n (Ev.O.lst es))[j]?=some (.lst z)->∃z',h[j]?=some (.lst z'):=λj z w=>by
   by_cases l:j=n
   .subst l;exact⟨ds,hn⟩
   .rw[Kc (λz=>l z.symm)]at w;exact⟨z,w⟩
  obtain⟨G,I⟩:=back k x B;obtain⟨J,L⟩:=back m y F;exact hr.inj k m b G J c A I L
 ox:=hr.ox.wr hn rfl rfl rfl vF (λC M fs z=>by rw[ha]at z;cases z) (.write ha (ZM vF))
def gA{p:Addr}{vs ws:List V}(hp:H p=some (.lst vs)):∀a us,cU K H a us->cU K (upd H p (.lst ws)) a us:=λb us e=>by
 rcases e with (e|⟨ob,e⟩)|e
 .exact .inl (.inl (by rw[aC (jP e hp (by intro z;cases z))];exact e))
 .exact .inl (.inr ⟨ob,by rw[aC (jP e hp (by intro z;cases z))];exact e⟩)
 .exact .inr e
def HR.other{p:Addr}{vs ws:List V}(hr:HR K H r h)(hp:H p=some (.lst vs))(hn:p∉r):HR K (upd H p (.lst ws)) r h where
 len:=hr.len
 ob:=λn ob e=>by
  obtain⟨a,f,q⟩:=hr.ob n ob e;have g:a≠p:=λz=>hn (by rw[<-z];exact ZM f);refine⟨a,f,?_⟩;cases ob with
  |lst ds=>
   obtain⟨c,b,d⟩:=q;exact⟨c,by rw[aC g];exact b,d.grow (λ_ _ z=>z) (gA hp)⟩
  |bT ds=>
   obtain⟨c,b,d⟩:=q;refine⟨c,?_,d.grow (λ_ _ z=>z) (gA hp)⟩;rcases b with ⟨o,b⟩|b
   .exact .inl ⟨o,by rw[aC g];exact b⟩
   .exact .inr b
  |obj _ _=>trivial
  |b9 _ _=>trivial
 inj:=hr.inj
 ox:=hr.ox.go (λ_ _ e=>e) (gA hp) (λ_ _ _ e=>e) (λ_ _ _ e=>e) (λn o a x _ _ z e=>by rw[aC (λ(y:a=p)=>hn (by rw[<-y];exact ZM z))];exact e) λm o a i j k=>.inl ⟨o,i,j,k⟩
def Fm.other{p:Addr}{vs ws:List V}(f:Fm K r r1 H H1)(h0:H p=none)(hp:H1 p=some (.lst vs)):Fm K r r1 H (upd H1 p (.lst ws)) where
 pre:=f.pre
 new:=f.new
 keep:=λa o e n=>by rw[aC (bA e h0)];exact f.keep a o e n
 tups:=λa c e=>gA hp a c (f.tups a c e)
 fin:=λa C g fs e=>by
  obtain⟨b,d,q⟩:=f.fin a C g fs e;exact⟨b,by rw[aC (jP d hp (by intro z;cases z))];exact d,q⟩
def Fm.iH{p:Addr}{o:HO}(f:Fm K r r1 H H1)(hp:H p=some o)(hn:p∉r):p∉r1/\H1 p=some o:=by
 refine⟨λz=>?_,f.keep p o hp hn⟩;rcases f.new p z with q|q
 .exact hn q
 .rw[hp]at q;cases q
def HR.known{p:Addr}{ds:List Ev.D}{vs:List V}(hr:HR K H r h)(hp:H p=some (.lst vs))(hn:p∉r)(q:aG K H r ds vs):HR K H (r++[p]) (h++[.lst ds]):=by
 have pre:∀(n:Nat) a,r[n]?=some a->(r++[p])[n]?=some a:=λn a e=>by rw[gV (List.getElem?_eq_some_iff.mp e).1];exact e
 refine⟨by simp[hr.len],λn B e=>?_,λn m a x y j b c C=>?_
  ,hr.ox.push hr.len rfl (λm _ _ _ z=>hn (ZM z)) (λ_ _ e=>e) (λ_ _ e=>e)
  ⟩
 .by_cases d:n<h.length
  .rw[gV d]at e;obtain⟨a,j,z⟩:=hr.ob n B e;refine⟨a,pre n a j,?_⟩;cases B with
   |lst ds=>obtain⟨l,b,c⟩:=z;exact⟨l,b,c.grow pre λ_ _ z=>z⟩
   |bT ds=>obtain⟨l,b,c⟩:=z;exact⟨l,b,c.grow pre λ_ _ z=>z⟩
   |obj _ _=>trivial
   |b9 _ _=>trivial
  .have b:=(List.getElem?_eq_some_iff.mp e).1;simp only[ZX,aal]at b;have c:n=h.length:=by omega
   subst c;simp at e;subst e;exact⟨p,by rw[<-hr.len];simp,vs,hp,q.grow pre λ_ _ z=>z⟩
 .have out:∀(k:Nat) z,(h++[Ev.O.lst ds])[k]?=some (.lst z)->(r++[p])[k]?=some a->(k<h.length/\r[k]?=some a/\h[k]?=some (.lst z)/\a≠p)\/(k=h.length/\a=p):=λk z o f=>by
   by_cases d:k<h.length
   .rw[gV d]at o;rw[gV (by rw[hr.len];exact d)]at f;exact .inl ⟨d,f,o,λz=>hn (by rw[<-z];exact ZM f)⟩
   .have J:=(List.getElem?_eq_some_iff.mp o).1;simp only[ZX,aal]at J;have L:k=r.length:=by rw[hr.len];omega
    subst L;simp at f;exact .inr ⟨hr.len,f.symm⟩
  rcases out n x c j with ⟨F,A,M,N⟩|⟨F,A⟩
  .rcases out m y C b with ⟨i,g,G,I⟩|⟨i,g⟩
   .exact hr.inj n m a x y A g M G
   .exact absurd g N
  .rcases out m y C b with ⟨i,g,G,I⟩|⟨i,g⟩
   .exact absurd A I
   .rw[F,i]
def Fm.known{p:Addr}(f:Fm K r r1 H H1)(h0:H p=none):Fm K r (r1++[p]) H H1 where
 pre:=λn a e=>by
  have b:=f.pre n a e;rw[gV (List.getElem?_eq_some_iff.mp b).1];exact b
 new:=λa e=>by
  rcases List.mem_append.mp e with q|q
  .exact f.new a q
  .rw[Z8]at q;subst q;exact .inr h0
 keep:=f.keep
 tups:=f.tups
 fin:=f.fin
end
end Sm
namespace Sm
open PySem PySem.Spec PyProof.Rows L2
open Ev (D O Hh Fr R aQ E Es Eo It T S Ss Fl Src bS bM TY BI ME)
section
variable(K:PySem.W.Frag)
def Res(r:List Addr)(H:Hp)(h':Hh)(d:D)(Q:VK):Prop:=∀v H' r',RV K H' r' d v->HR K H' r' h'->Fm K r r' H H'->Q v H'
structure SR(m:List Nat)(H:Hp)(r:List Addr)(fr:Fr)(s:L2.St):Prop where
 len:s.length=m.length
 sl:∀(j i:Nat) d,m[j]?=some i->fr[i]?=some (some d)->∃v,s[j]?=some (some v)/\RV K H r d v
inductive tJ(m:List Nat)(P:aQ)(e:E)(s:L2.St)(H:Hp)(Q:VK):Prop
 |mk (r:List Addr) (fr:Fr) (h:Hh) (d:D) (h':Hh) (c0:SR K m H r fr s) (c1:HR K H r h) (c2:Ev.ev P e fr h=.ok d h') (c3:Res K r H h' d Q):tJ m P e s H Q
inductive Lr(m:List Nat)(P:aQ)(e:E)(s:L2.St)(H:Hp)(Q:Bool->Hp->Prop):Prop
 |mk (r:List Addr) (fr:Fr) (h:Hh) (k:Bool) (h':Hh) (c0:SR K m H r fr s) (c1:HR K H r h) (c2:Ev.aM P e fr h=.ok k h') (c3:∀H' r',HR K H' r' h'->Fm K r r' H H'->Q k H'):Lr m P e s H Q
inductive Ls(m:List Nat)(P:aQ)(es:Es)(s:L2.St)(H:Hp)(Q:List V->Hp->Prop):Prop
 |mk (r:List Addr) (fr:Fr) (h:Hh) (ds:List D) (h':Hh) (c0:SR K m H r fr s) (c1:HR K H r h) (c2:Ev.bq P es fr h=.ok ds h') (c3:∀vs H' r',aG K H' r' ds vs->HR K H' r' h'->Fm K r r' H H'->Q vs H'):Ls m P es s H Q
inductive RM(m:List Nat)(P:aQ)(e:Eo)(s:L2.St)(H:Hp)(Q:Option Int->Hp->Prop):Prop
 |mk (r:List Addr) (fr:Fr) (h:Hh) (o:Option Int) (h':Hh) (c0:SR K m H r fr s) (c1:HR K H r h) (c2:Ev.gg P e fr h=.ok o h') (c3:∀H' r',HR K H' r' h'->Fm K r r' H H'->Q o H'):RM m P e s H Q
inductive iZ(f:D->D->Hh->R D)(x:V)(y:V)(H:Hp)(Q:VK):Prop
 |mk (r:List Addr) (h:Hh) (a:D) (b:D) (d:D) (h':Hh) (c0:HR K H r h) (c1:RV K H r a x) (c2:RV K H r b y) (c3:f a b h=.ok d h') (c4:Res K r H h' d Q):iZ f x y H Q
inductive yu(f:List D->Hh->R D)(xs:List V)(H:Hp)(Q:VK):Prop
 |mk (r:List Addr) (h:Hh) (as:List D) (d:D) (h':Hh) (c0:HR K H r h) (c1:aG K H r as xs) (c2:f as h=.ok d h') (c3:Res K r H h' d Q):yu f xs H Q
inductive vG(f:D->List D->Hh->R D)(x:V)(xs:List V)(H:Hp)(Q:VK):Prop
 |mk (r:List Addr) (h:Hh) (a:D) (as:List D) (d:D) (h':Hh) (c0:HR K H r h) (c1:RV K H r a x) (c2:aG K H r as xs) (c3:f a as h=.ok d h') (c4:Res K r H h' d Q):vG f x xs H Q
inductive Lu  (x:V) (lo:Option Int) (hi:Option Int) (H:Hp) (Q:VK):Prop
 |mk (r:List Addr) (h:Hh) (a:D) (d:D) (h':Hh) (c0:HR K H r h) (c1:RV K H r a x) (c2:Ev.ir a lo hi h=.ok d h') (c3:Res K r H h' d Q):Lu x lo hi H Q
end
section
variable{K:PySem.W.Frag}{m:List Nat}{H H':Hp}{r r':List Addr}{fr:Fr}{s:L2.St}{h h':Hh}{d:D}{Q:VK}
theorem SR.mono(a:SR K m H r fr s)(f:Fm K r r' H H'):SR K m H' r' fr s:=⟨a.len,λj i d b c=>by
 obtain⟨v,q,z⟩:=a.sl j i d b c;exact⟨v,q,z.mono f⟩⟩
def Res.here{v:V}(q:Res K r H h d Q)(a:RV K H r d v)(b:HR K H r h):Q v H:=q v H r a b .refl
def Res.later(q:Res K r H h' d Q)(f:Fm K r r' H H'):Res K r' H' h' d Q:=λv H2 c a b g=>q v H2 c a b (f.trans g)
theorem Res.lst{ds:List D}{vs:List V}(q:Res K r H h' d Q)(e:Ev.alloc ds h=.ok d h')(a:aG K H r ds vs)(b:HR K H r h):vs.length<=sizeLine/\∀p,H p=none->Q (.ref p) (upd H p (.lst vs)):=by
 unfold Ev.alloc at e;split at e
 .rename_i z;cases e;refine⟨by rw[a.length,<-gQ];exact z,λp c=>?_⟩;exact q _ _ (r++[p]) ⟨p,rfl,by rw[<-b.len];simp⟩ (b.lst c a) (.laid c)
 .cases e
theorem Res.tup{ds:List D}{vs:List V}(q:Res K r H h (.tup ds) Q)(a:aG K H r ds vs)(b:HR K H r h){p:Addr}(hp:H p=none):Q (.ref p) (upd H p (.tup vs)):=
 q _ _ r ⟨p,vs,rfl,.of bz,a.mono (.tup hp)⟩ (b.tup hp) (.tup hp)
end
def PE.of{X:Cx}{e:Expr}{t t':TE}(h:PE X e t)(w:∀s H Q,t' s H Q->t s H Q):PE X e t':=λpins s σ H Q I q=>h pins s σ H Q I (w _ _ _ q)
def PT.of{X:Cx}{e:Expr}{t t':TT}(h:PT X e t)(w:∀s H Q,t' s H Q->t s H Q):PT X e t':=λpins s σ H Q I q=>h pins s σ H Q I (w _ _ _ q)
def PW.of{X:Cx}{e:Expr}{t t':TT}(h:PW X e t)(w:∀s H Q,t' s H Q->t s H Q):PW X e t':=λwh pins s σ H Q I q=>h wh pins s σ H Q I (w _ _ _ q)
def PA.of{X:Cx}{es:List Expr}{t t':TA}(h:PA X es t)(w:∀s H Q,t' s H Q->t s H Q):PA X es t':=λpos pins s σ H Q I q=>h pos pins s σ H Q I (w _ _ _ q)
def PO.of{X:Cx}{e:Option Expr}{t t':TO}(h:PO X e t)(w:∀s H Q,t' s H Q->t s H Q):PO X e t':=λpins s σ H Q I q=>h pins s σ H Q I (w _ _ _ q)
structure FI where
 name:Str
 addr:Addr
 fd:FuncData
 ps:List Str
noncomputable def oA(K:PySem.W.Frag)(F:List Ev.Fn)(w n f:Nat):Sp:=λa H Q _=>∃r h ds d h',aG K H r ds a/\HR K H r h/\Ev.run F w n f ds h=.ok d h'/\Res K r H h' d Q
def yw(K:PySem.W.Frag)(d:D)(v:V):Prop:=∀H r,RV K H r d v
def yw.rv{K:PySem.W.Frag}{H:Hp}{r:List Addr}{d:D}{v:V}(h:yw K d v):RV K H r d v:=h H r
structure qa where
 c:Ev.Cl
 ms:List (Str×Nat)
 ini:FI
 tp:List Ev.TP
inductive IK where
 |arg (j:Nat)|lst (js:List Nat)|om|con (v:V)
noncomputable def D4(as:List V):List Nat->Option (List V)
 |[]=>some []
 |j :: r=>as[j]?.bind λv=>(D4 as r).map λl=>v :: l
def nc(x C dx:Addr)(as:List V):List (Str×IK)->Hp->List (Str×V)->(Hp->Prop)->Prop
 |[],H,_,Q=>Q H
 | (f,.arg j) :: r,H,fs,Q=>∃v,as[j]?=some v/\nc x C dx as r (upd H x (.ins C dx (bw f v fs))) (bw f v fs) Q
 | (f,.lst js) :: r,H,fs,Q=>∃vs,D4 as js=some vs/\vs.length<=sizeLine/\∀p,H p=none->nc x C dx as r (upd (upd H p (.lst vs)) x (.ins C dx (bw f (.ref p) fs))) (bw f (.ref p) fs) Q
 | (f,.om) :: r,H,fs,Q=>∀p,H p=none->nc x C dx as r (upd (upd H p (.dK [])) x (.ins C dx (bw f (.ref p) fs))) (bw f (.ref p) fs) Q
 | (f,.con v) :: r,H,fs,Q=>nc x C dx as r (upd H x (.ins C dx (bw f v fs))) (bw f v fs) Q
noncomputable def jJ(c:Ev.Cl):Nat->List (List Nat)->List Ev.TP->List (Str×IK)
 |k,f :: r,.a j :: t=>(ay f,.arg j) :: jJ c (k+1) r t
 |k,f :: r,.t j :: t=>(ay f,.lst [j]) :: jJ c (k+1) r t
 |k,f :: r,.c d :: t=>(ay f,if k<c.nv then (match d with
   |.int i=>.con (.int i)
   |_=>.con .aV)else if k<c.nl then .lst []else .om) :: jJ c (k+1) r t
 |_,_,_=>[]
noncomputable def RN(K:PySem.W.Frag)(o:qa)(na:Nat):Sp:=λa H Q _=>∃x C dx as,a=.ref x :: as/\as.length=na/\PySem.W.nsIn K mainGlobals (ay o.c.cn)=some (some (.ref C))/\H x=some (.ins C dx [])/\nc x C dx as (jJ o.c 0 o.c.nm o.tp) H [] (Q .aV)
structure Tb where
 F:List Ev.Fn
 w:Nat
 fi:List FI
 bl:List Str
 cs:List (Str×D)
 dk:List (Str×List (D×D))
 mi:List FI
 oc:List qa
noncomputable def tabOf:List (D×D)->List (PyData×PyData)
 | (.str k,.str v) :: r=>(.str (ay k),.str (ay v)) :: tabOf r
 |_=>[]
structure D5(P:Program)(w:World)(K:PySem.W.Frag)(mg:Str->Option Value)(base:Heap)(mi:List FI)(o:qa)(C:Addr):Prop where
 ns:PySem.W.nsIn K mainGlobals (ay o.c.cn)=some (some (.ref C))
 gl:mg (ay o.c.cn)=some (.ref C)
 cl:mE K C
 no:∀f∈o.c.nm,fR K C (ay f)
 nd:o.c.nm.Nodup
 ms:∀p∈o.ms,∃i,mi[p.2]?=some i/\Meth K C p.1 i.addr/\p.1∉o.c.nm.map ay
 RP:Mk K C o.ini.addr
 bd:Binds K o.ini.fd o.ini.ps []
 ok:∀k,fB P w K mg base lE (k+1) o.ini.addr o.ini.fd o.ini.ps (RN K o (o.ini.ps.length - 1))
structure Good(G:Tb)(n:Nat)(sc:Scope)(N:List Str)(df:Bool)(X:Cx):Prop where
 nm:X.N=N
 sc:X.env.scope=sc
 calm:X.calm=true
 own:df=true->∀x,X.fn x=true
 room:eW n X.A
 xe:X.xe=λ_ _=>False
 fn:∀(f:Nat) i,G.fi[f]?=some i->X.mg i.name=some (.ref i.addr)/\PySem.W.keepIn X.K (.ref i.addr)=true/\Binds X.K i.fd i.ps []/\fB X.prog X.w X.K X.mg X.base lE n i.addr i.fd i.ps (oA X.K G.F G.w n f)
 bl:∀x∈G.bl,X.mg x=none
 cs:∀x d,(x,d)∈G.cs->∃v u,X.mg x=some u/\RelV v u/\yw X.K d v
 dk:∀x kvs,(x,kvs)∈G.dk->∃a,X.mg x=some (.ref a)/\∀h:Heap,X.K.In h->StrTab X.prog X.w h a (tabOf kvs)
 mt:∀(f:Nat) i,G.mi[f]?=some i->PySem.W.keepIn X.K (.ref i.addr)=true/\Binds X.K i.fd i.ps []/\fB X.prog X.w X.K X.mg X.base lE n i.addr i.fd i.ps (oA X.K G.F G.w n (G.fi.length+f))
 oc:∀o∈G.oc,∃C,D5 X.prog X.w X.K X.mg X.base G.mi o C
section
variable(G:Tb)(n:Nat)(sc:Scope)(N:List Str)(df:Bool)(m:List Nat)
def JE(e:E)(x:Expr):Prop:=∀X,Good G n sc N df X->PE X x (tJ X.K m (Ev.run G.F G.w n) e)
def JT(e:E)(x:Expr):Prop:=∀X,Good G n sc N df X->PT X x (Lr X.K m (Ev.run G.F G.w n) e)
def JW(e:E)(x:Expr):Prop:=∀X,Good G n sc N df X->PW X x (Lr X.K m (Ev.run G.F G.w n) e)
def JA(es:Es)(xs:List Expr):Prop:=∀X,Good G n sc N df X->PA X xs (Ls X.K m (Ev.run G.F G.w n) es)
def JO(e:Eo)(x:Option Expr):Prop:=∀X,Good G n sc N df X->PO X x (RM X.K m (Ev.run G.F G.w n) e)
end
section
variable{G:Tb}{n:Nat}{sc:Scope}{N:List Str}{df:Bool}{m:List Nat}{a b c:E}{xa xb:Expr}{pos:Pos}
def Good.vis{X:Cx}(g:Good G n sc N df X){x:Str}(h:sc.names.lookup x=some .local\/sc.names.lookup x=some .cell\/sc.names.lookup x=some .free):Bj X.env.scope x:=by
 rw[g.sc];exact h
def Good.gl{X:Cx}(g:Good G n sc N df X){x:Str}(h:sc.names.lookup x=some .globalImplicit):Gl X x:=by
 unfold Gl Env.kindOf;rw[g.sc];exact h
def UG(j i:Nat){x:Str}(hj:m[j]?=some i:=by rfl)(hN:N[j]?=some x:=by rfl)
  (hv:sc.names.lookup x=some .local\/sc.names.lookup x=some .cell\/sc.names.lookup x=some .free:=by first|exact Or.inl rfl|exact Or.inr (Or.inl rfl)|exact Or.inr (Or.inr rfl))
  (hd:(x==("__debug__" : Str))=false:=by decide) (hcd:(x==("__classdict__" : Str))=false:=by decide):JE G n sc N df m (.v i) (.Name x pos):=by
 intro X g;refine PE.of (qL (i:=j) (by rw[g.nm];exact hN) (g.vis hv) hd hcd) λs H Q q=>?_;obtain⟨r,k,h,d,F,l,p,e,q⟩:=q;simp only[Ev.ev]at e;obtain⟨f,y⟩:=Ev.aI e;subst y;obtain⟨v,A,B⟩:=l.sl j i d hj (by
  cases z:k[i]? with
  |none=>rw[z]at f;cases f
  |some o=>
   rw[z]at f;have C:o=some d:=f;rw[C])
 exact⟨v,A,q.here B p⟩
def Ah{K:PySem.W.Frag}{P:aQ}{d:D}{v:V}(hc:yw K d v):∀s H Q,tJ K m P (.c d) s H Q->tC v s H Q:=λs H Q q=>by
 obtain⟨r,g,h,i,j,k,f,e,q⟩:=q;simp only[Ev.ev]at e;cases e;exact q.here hc.rv f
def Lv{i:Int}{j}:JE G n sc N df m (.c (.int i)) (.Constant (.int i) j pos):=λX g=>PE.of Bo (Ah λ_ _=>rfl)
def QD{k:Bool}{j}:JE G n sc N df m (.c (.bl k)) (.Constant (.bool k) j pos):=λX g=>PE.of Qi (Ah λ_ _=>rfl)
def Lx{l:List Nat}{x:Str}{j}(hx:x=ay l:=by decide +kernel)(hl:l.length<=sizeLine:=by decide):JE G n sc N df m (.c (.str l)) (.Constant (.str x) j pos):=
 λX g=>PE.of KJ (Ah λ_ _=>by subst hx;exact⟨rfl,hl⟩)
def Ly:JA G n sc N df m .nil []:=λX g=>PA.of gk λs H Q q=>by
 obtain⟨r,f,h,ds,i,j,d,e,q⟩:=q;simp only[Ev.bq]at e;cases e;exact q [] H r .nil d .refl
def IA{es:Es}{xs:List Expr}(ha:JE G n sc N df m a xa)(hs:JA G n sc N df m es xs)(hst:∀env:Env,starEach (xa :: xs) env=(false,eval xa env) :: starEach xs env:=by intro _;rfl):JA G n sc N df m (.cons a es) (xa :: xs):=
 λX g=>PA.of (gy (ha X g) (hs X g) (hst _)) λs H Q q=>by
  obtain⟨r,k,h,ds,F,l,p,e,q⟩:=q;simp only[Ev.bq]at e;obtain⟨d,o,x,e⟩:=Ev.ah e;obtain⟨f,I,y,e⟩:=Ev.ah e;cases e;refine⟨r,k,h,d,o,l,p,x,λv H1 z A i f1=>?_⟩;refine⟨z,k,o,f,_,l.mono f1,i,y,λJ H2 B C j f2=>?_⟩;exact q _ H2 B (.cons (A.mono f2) C) j (f1.trans f2)
def Lz{es:Es}{xs:List Expr}{k}(hs:JA G n sc N df m es xs):JE G n sc N df m (.tup es) (.Tuple xs k pos):=λX g=>PE.of (La (hs X g)) λs H Q q=>by
 obtain⟨r,j,h,d,A,l,o,e,q⟩:=q;simp only[Ev.ev]at e;obtain⟨ds,B,x,e⟩:=Ev.ah e;split at e
 .rename_i z;cases e;refine⟨r,j,h,ds,_,l,o,x,λC H1 F i f f1=>⟨by rw[i.length,<-gQ];exact z,λp y=>?_⟩⟩;exact(q.later f1).tup i f y
 .cases e
def LA{es:Es}{xs:List Expr}(hs:JA G n sc N df m es xs):JE G n sc N df m (.lst es) (.List xs pos):=λX g=>PE.of (vp (hs X g)) λs H Q q=>by
 obtain⟨r,i,h,d,x,j,k,e,q⟩:=q;simp only[Ev.ev]at e;obtain⟨ds,l,o,e⟩:=Ev.ah e;refine⟨r,i,h,ds,l,j,k,o,λy H1 z p f f1=>?_⟩;exact(q.later f1).lst e p f
def qV{K:PySem.W.Frag}{P:aQ}{f:D->D->Hh->R D}{e':E}(he:∀fr h,Ev.ev P e' fr h=(Ev.ev P a fr h).bind λx h1=>(Ev.ev P b fr h1).bind λy h2=>f x y h2) :
  ∀s H Q,tJ K m P e' s H Q->Bv (iZ K f) (tJ K m P a) (tJ K m P b) s H Q:=λs H Q q=>by
 obtain⟨r,fr,h,d,k,j,l,e,q⟩:=q;rw[he]at e;obtain⟨x,h1,o,e⟩:=Ev.ah e;obtain⟨y,h2,p,e⟩:=Ev.ah e;refine⟨r,fr,h,x,h1,j,l,o,λv H1 z A g f1=>?_⟩;refine⟨z,fr,h1,y,h2,j.mono f1,g,p,λu H2 B C i f2=>?_⟩;exact⟨B,h2,x,y,d,k,i,A.mono f2,C,e,q.later (f1.trans f2)⟩
def oB{o:bS}{op:Operator}(ho:∀X,Good G n sc N df X->eF X (binaryOp op) (iZ X.K (Ev.bP o)))(ha:JE G n sc N df m a xa)(hb:JE G n sc N df m b xb):JE G n sc N df m (.bin o a b) (.BinOp xa op xb pos):=
 λX g=>PE.of (Qs (ho X g) (ha X g) (hb X g)) (qV λd h=>by simp only[Ev.ev])
noncomputable def iJ(o:bM):D->D->Hh->R D:=λx y h=>R.of ((Ev.cop o x y h).map .bl) h
def BP{o:bM}{op:CmpOp}(ho:∀X,Good G n sc N df X->eF X (compareOp op) (iZ X.K (iJ o)))(ha:JE G n sc N df m a xa)(hb:JE G n sc N df m b xb)(hm:behindInMarks op xb=false):JE G n sc N df m (.cmp o a b) (.Compare xa [op] [xb] pos):=
 λX g=>PE.of (Ie (ho X g) (ha X g) (hb X g) hm) (qV λd h=>by simp only[Ev.ev,iJ])
def mH{o:bM}{x y d:D}{h h':Hh}(e:iJ o x y h=.ok d h'):∃k,Ev.cop o x y h=some k/\d=.bl k/\h'=h:=by
 unfold iJ at e;obtain⟨f,rfl⟩:=Ev.aI e;cases z:Ev.cop o x y h' with
 |none=>rw[z]at f;cases f
 |some k=>rw[z]at f;cases f;exact⟨k,rfl,rfl,rfl⟩
def oE{o:bM}{op:CmpOp}(ho:∀X,Good G n sc N df X->eF X (compareOp op) (iZ X.K (iJ o)))(ha:JE G n sc N df m a xa)(hb:JE G n sc N df m b xb)(hm:behindInMarks op xb=false):JT G n sc N df m (.cmp o a b) (.Compare xa [op] [xb] pos):=
 λX g=>PT.of (Ig (ho X g) (ha X g) (hb X g) hm) λs H Q q=>by
  obtain⟨r,l,h,k,J,z,A,e,q⟩:=q;simp only[Ev.aM]at e;obtain⟨d,L,p,e⟩:=Ev.ah e;have i:=p;simp only[Ev.ev]at i;obtain⟨x,M,_,i⟩:=Ev.ah i;obtain⟨y,B,_,i⟩:=Ev.ah i;obtain⟨P,W,C,Y⟩:=mH (o:=o) (show iJ o x y B=_ from i);subst C;simp only[Ev.truthy]at e;cases e;refine qV (e':=.cmp o a b) (f:=iJ o) (λl h=>by simp only[Ev.ev,iJ]) s H _ ⟨r,l,h,.bl k,_,z,A,p,λv H1 F I j f1=>?_⟩;exact⟨k,I,q H1 F j f1⟩
end
section
variable{G:Tb}{n:Nat}{sc:Scope}{N:List Str}{df:Bool}{m:List Nat}{a b c:E}{xa xb xc:Expr}{pos:Pos}
def LC(ha:JE G n sc N df m a xa):JE G n sc N df m (.neg a) (.UnaryOp .USub xa pos):=λX g=>PE.of (FP Bw (ha X g)) λs H Q q=>by
 obtain⟨r,i,h,d,p,j,k,e,q⟩:=q;simp only[Ev.ev]at e;obtain⟨x,y,l,e⟩:=Ev.ah e;split at e
 .cases e;exact⟨r,i,h,_,_,j,k,l,λv H1 z o f f1=>⟨_,o,(q.later f1).here rfl f⟩⟩
 .cases e
def LD{op}(ha:JE G n sc N df m a xa):JE G n sc N df m a (.BoolOp op [xa] pos):=λX g=>KP (ha X g)
def QE{rest:List Expr}(ha:JE G n sc N df m a xa)(hb:JE G n sc N df m b (.BoolOp .And (xb :: rest) pos)):JE G n sc N df m (.an a b) (.BoolOp .And (xa :: xb :: rest) pos):=λX g=>PE.of (KQ (ha X g) (hb X g)) λs H Q q=>by
 obtain⟨r,i,h,d,o,j,p,e,q⟩:=q;simp only[Ev.ev]at e;obtain⟨x,k,y,e⟩:=Ev.ah e;refine⟨r,i,h,x,k,j,p,y,λv H1 z l f f1=>?_⟩;split at e
 .exact⟨true,l,z,i,k,d,o,j.mono f1,f,e,q.later f1⟩
 .cases e;exact⟨false,l,(q.later f1).here rfl f⟩
 .cases e
def LF(ha:JT G n sc N df m a xa)(hb:JE G n sc N df m b xb)(hc:JE G n sc N df m c xc):JE G n sc N df m (.fS a b c) (.IfExp xa xb xc pos):=λX g=>PE.of (DI (ha X g) (hb X g) (hc X g)) λs H Q q=>by
 obtain⟨r,i,h,d,o,j,x,e,q⟩:=q;simp only[Ev.ev]at e;obtain⟨k,l,y,e⟩:=Ev.ah e;refine⟨r,i,h,k,l,j,x,y,λH1 p f f1=>?_⟩;cases k with
 |true=>exact⟨p,i,l,d,o,j.mono f1,f,e,q.later f1⟩
 |false=>exact⟨p,i,l,d,o,j.mono f1,f,e,q.later f1⟩
def LG(h:JW G n sc N df m a xa):JT G n sc N df m a xa:=λX g=>(h X g).pt
def LH(ha:JT G n sc N df m a xa):JW G n sc N df m a (.BoolOp .And [xa] pos):=λX g=>HZ (ha X g)
def IB(ha:JT G n sc N df m a xa):JW G n sc N df m a (.BoolOp .Or [xa] pos):=λX g=>KL (ha X g)
def Ga{rest:List Expr}(ha:JT G n sc N df m a xa)(hb:JW G n sc N df m b (.BoolOp .And (xb :: rest) pos)):JW G n sc N df m (.an a b) (.BoolOp .And (xa :: xb :: rest) pos):=λX g=>PW.of (KN (ha X g) (hb X g)) λs H Q q=>by
 obtain⟨r,j,h,k,l,o,y,e,q⟩:=q;simp only[Ev.aM]at e;obtain⟨p,f,z,e⟩:=Ev.ah e;refine⟨r,j,h,p,f,o,y,z,λH1 x d f1=>?_⟩;cases p with
 |true=>exact⟨x,j,f,k,l,o.mono f1,d,e,λH2 A i f2=>q H2 A i (f1.trans f2)⟩
 |false=>
  have B:R.ok false f=R.ok k l:=e;cases B;exact q H1 x d f1
def BQ{rest:List Expr}(ha:JT G n sc N df m a xa)(hb:JW G n sc N df m b (.BoolOp .Or (xb :: rest) pos)):JW G n sc N df m (.orr a b) (.BoolOp .Or (xa :: xb :: rest) pos):=λX g=>PW.of (Qj (ha X g) (hb X g)) λs H Q q=>by
 obtain⟨r,j,h,k,l,o,y,e,q⟩:=q;simp only[Ev.aM]at e;obtain⟨p,f,z,e⟩:=Ev.ah e;refine⟨r,j,h,p,f,o,y,z,λH1 x d f1=>?_⟩;cases p with
 |false=>exact⟨x,j,f,k,l,o.mono f1,d,e,λH2 A i f2=>q H2 A i (f1.trans f2)⟩
 |true=>
  have B:R.ok true f=R.ok k l:=e;cases B;exact q H1 x d f1
def QF(ha:JT G n sc N df m a xa):JT G n sc N df m (.nt a) (.UnaryOp .Not xa pos):=λX g=>PT.of (KO (ha X g)) λs H Q q=>by
 obtain⟨r,f,h,k,x,i,j,e,q⟩:=q;simp only[Ev.aM]at e;obtain⟨l,y,o,e⟩:=Ev.ah e;cases e;exact⟨r,f,h,l,_,i,j,o,λH1 p d f1=>q H1 p d f1⟩
def LI{K:PySem.W.Frag}{H:Hp}{r:List Addr}{h:Hh}{d:D}{v:V}{k:Bool}(hr:HR K H r h)(v1:RV K H r d v)(e:Ev.truthy h d=some k):DP K v H k:=by
 cases d with
 |aV=>simp only[RV]at v1;subst v1;cases e;rfl
 |bl x=>simp only[RV]at v1;subst v1;cases e;rfl
 |int x=>simp only[RV]at v1;subst v1;cases e;rfl
 |str x=>
  simp only[RV]at v1;obtain⟨rfl,z⟩:=v1;cases e;refine⟨by rw[dg];exact z,?_⟩;rw[dg];cases x with
  |nil=>rfl
  |cons c l=>simp;omega
 |tup ds=>
  simp only[RV]at v1;obtain⟨p,f,rfl,z,q⟩:=v1;cases e;refine .inr (.inl ⟨f,z,?_⟩);have o:=q.length;cases ds<;>cases f<;>simp_all
 |ref i=>
  simp only[RV]at v1;obtain⟨p,rfl,z⟩:=v1;have y:Ev.truthy h (.ref i)=(Ev.bB h i).map λds=>!ds.isEmpty:=by
   first
    |rfl
    | (simp only[Ev.truthy];split<;>first|rfl | (rename_i g z;first|exact(XT ⟨g,z⟩).elim|exact(hss ⟨g,z⟩).elim))
  rw[y]at e;simp only[Vw]at e;obtain⟨ds,A,rfl⟩:=e;obtain⟨F,f,j,B,C⟩:=hr.read A;rw[z]at j;cases j;refine .inl ⟨f,B,?_⟩;have o:=C.length;cases ds<;>cases f<;>simp_all
def LJ(ha:JE G n sc N df m a xa)(he:∀(P:aQ) fr h,Ev.aM P a fr h=(Ev.ev P a fr h).bind λx h1=>R.of (Ev.truthy h1 x) h1:=by intros;simp only[Ev.aM])
  (hx:∀(env:Env) whole,isTrue xa env whole=(do let v <-whole;standAt xa.pos;holding [v] (truthy v)):=by intro _ _;rfl):JT G n sc N df m a xa:=λX g=>PT.of (vn (ha X g) (hx _)) λs H Q q=>by
 obtain⟨r,fr,h,k,y,i,j,e,q⟩:=q;rw[he]at e;obtain⟨d,h1,l,e⟩:=Ev.ah e;obtain⟨e,rfl⟩:=Ev.aI e;refine⟨r,fr,h,d,_,i,j,l,λv H1 o p f f1=>⟨k,LI f p e,q H1 o f f1⟩⟩
noncomputable def LK:D->D->Hh->R D:=λx y h=>R.of (Ev.eX x y h) h
def QG(ho:∀X,Good G n sc N df X->yo X (iZ X.K LK))(ha:JE G n sc N df m a xa)(hb:JE G n sc N df m b xb)(hs:sM xb:=by intro _ _;rfl):JE G n sc N df m (.ix a b) (.Subscript xa xb pos):=
 λX g=>PE.of (FT (ho X g) (ha X g) (hb X g) hs) (qV λd h=>by simp only[Ev.ev,LK])
def QH:JO G n sc N df m .no none:=λX g=>PO.of Io λs H Q q=>by
 obtain⟨r,f,h,o,i,j,d,e,q⟩:=q;simp only[Ev.gg]at e;cases e;exact q H r d .refl
def LL(ha:JE G n sc N df m a xa):JO G n sc N df m (.yes a) (some xa):=λX g=>PO.of (Ip (ha X g)) λs H Q q=>by
 obtain⟨r,j,h,o,z,k,l,e,q⟩:=q;simp only[Ev.gg]at e;obtain⟨d,A,p,e⟩:=Ev.ah e;obtain⟨e,rfl⟩:=Ev.aI e;cases d with
 |int i=>
  cases e;exact⟨r,j,h,.int i,_,k,l,p,λv H1 x y f f1=>⟨i,y,q H1 x f f1⟩⟩
 |_=>cases e
def QI{lo hi:Eo}{xl xh:Option Expr}{p2}(ho:∀X,Good G n sc N df X->lz X (Lu X.K))(ha:JE G n sc N df m a xa)(hl:JO G n sc N df m lo xl)(hu:JO G n sc N df m hi xh):JE G n sc N df m (.sl a lo hi) (.Subscript xa (.Slice xl xh none p2) pos):=
 λX g=>PE.of (DV (ho X g) (ha X g) (hl X g) (hu X g)) λs H Q q=>by
  obtain⟨r,f,h,d,z,i,A,e,q⟩:=q;simp only[Ev.ev]at e;obtain⟨x,o,B,e⟩:=Ev.ah e;obtain⟨l,p,C,e⟩:=Ev.ah e;obtain⟨u,y,F,e⟩:=Ev.ah e;refine⟨r,f,h,x,o,i,A,B,λv H1 I J j f1=>?_⟩;refine⟨I,f,o,l,p,i.mono f1,j,C,λH2 L k f2=>?_⟩;refine⟨L,f,p,u,y,(i.mono f1).mono f2,k,F,λH3 M P f3=>?_⟩;exact⟨M,y,x,d,z,P,(J.mono f2).mono f3,e,q.later ((f1.trans f2).trans f3)⟩
def IC{K:PySem.W.Frag}{P:aQ}{es:Es}{f:List D->Hh->R D}{e':E}(he:∀fr h,Ev.ev P e' fr h=(Ev.bq P es fr h).bind f) :
  ∀s H Q,tJ K m P e' s H Q->Ld (yu K f) (Ls K m P es) s H Q:=λs H Q q=>by
 obtain⟨r,fr,h,d,j,k,l,e,q⟩:=q;rw[he]at e;obtain⟨ds,i,o,e⟩:=Ev.ah e;exact⟨r,fr,h,ds,i,k,l,o,λy H1 p x g f1=>⟨p,i,ds,d,j,g,x,e,q.later f1⟩⟩
def Ai{k:BI}{es:Es}{x:Str}{id:String}{e0:Expr}{xs:List Expr}{p:Pos}(hc:∀X,Good G n sc N df X->gx X (.builtin id) (yu X.K (Ev.dS k)))(hs:JA G n sc N df m es (e0 :: xs))(hb:x∈G.bl:=by decide +kernel)
  (hg:sc.names.lookup x=some .globalImplicit:=by rfl) (hv:bootBuiltins x=some (.builtin id)) (hn:x≠"__name__" :=by decide) (hd:(x==("__debug__" : Str))=false:=by decide)
  (hst:∀env:Env,starEach (e0 :: xs) env=(false,eval e0 env) :: starEach xs env:=by intro _;rfl) (hpl:∀env:Env,(backTo pos (starEach xs env)).any (·.1)=false:=by intro _;rfl) :
  JE G n sc N df m (.bi k es) (.Call (.Name x p) (e0 :: xs) [] pos):=
 λX g=>PE.of (vv (hc X g) (g.gl hg) (g.bl x hb) hv (hs X g) hn hd (hst _) (hpl _)) (IC λd h=>by simp only[Ev.ev])
def QJ{f:Nat}{i:FI}{es:Es}{e0:Expr}{xs:List Expr}{p:Pos}(hf:G.fi[f]?=some i)(hs:JA G n sc N df m es (e0 :: xs))
  (hg:sc.names.lookup i.name=some .globalImplicit:=by rfl) (hd:(i.name==("__debug__" : Str))=false:=by decide)
  (hst:∀env:Env,starEach (e0 :: xs) env=(false,eval e0 env) :: starEach xs env:=by intro _;rfl) (hpl:∀env:Env,(backTo pos (starEach xs env)).any (·.1)=false:=by intro _;rfl) :
  JE G n sc N df m (.cl f es) (.Call (.Name i.name p) (e0 :: xs) [] pos):=λX g=>by
 obtain⟨l,o,x,y⟩:=g.fn f i hf;refine PE.of (Ij y g.room (g.gl hg) l o x .nil qR (hs X g) hd (hst _) (hpl _)) λs H Q q=>?_;obtain⟨r,z,h,d,A,B,C,e,q⟩:=q;simp only[Ev.ev]at e;obtain⟨ds,k,F,e⟩:=Ev.ah e;refine⟨r,z,h,ds,k,B,C,F,λK H1 I J j f1=>?_⟩;exact⟨I,k,ds,d,A,by rw[aaf];exact J,j,e,q.later f1⟩
noncomputable def D6:ME->String
 |.join=>"str"
 |_=>"list"
def BR{K:PySem.W.Frag}{H:Hp}{r:List Addr}{h:Hh}{k:ME}{d:D}{v:V}{ty:String}(hr:HR K H r h)(v1:RV K H r d v)(e:Ev.yt k d h=true)(ht:ty=D6 k):BD K ty v H:=by
 subst ht;have lst:∀i,d=.ref i->(Ev.bB h i).isSome=true->BD K "list" v H:=λi g j=>by
  subst g;obtain⟨ds,o⟩:=Option.isSome_iff_exists.mp j;obtain⟨p,q,x,y,z⟩:=hr.read o;simp only[RV]at v1;obtain⟨A,rfl,f⟩:=v1;rw[x]at f;cases f;exact .inl ⟨rfl,q,y⟩
 cases k with
 |join=>
  cases d with
  |str l=>simp only[RV]at v1;obtain⟨rfl,_⟩:=v1;rfl
  |_=>cases e
 |append=>cases d with|ref i=>exact lst i rfl e|_=>cases e
 |extend=>cases d with|ref i=>exact lst i rfl e|_=>cases e
 |pop=>cases d with|ref i=>exact lst i rfl e|_=>cases e
def Aj {k:ME}{es:Es}{e0:Expr}{xs:List Expr}{name:Str}{apos:Pos}{ty id:String}(pa:PlainAttrs ty) (slot:Slot ty name id) (hty:typeOf (.builtin id)=pure (.type "method_descriptor"))
  (hm:∀X,Good G n sc N df X->t9 X id (vG X.K (Ev.fL k))) (ht:ty=D6 k) (ha:JE G n sc N df m a xa) (hs:JA G n sc N df m es (e0 :: xs))
  (hbase:∀env:Env,attributeBase xa name env (eval xa env)=eval xa env:=by intro _;rfl)
  (hfew:∀env:Env,((backTo pos (starEach (e0 :: xs) env)).all (λx=>!x.1)&&(backToKw pos (keywordEach [] env)).all (λx=>x.1.isSome)
   &&decide ((e0 :: xs).length+([]:List Keyword).length+(if ([]:List Keyword).isEmpty then 0 else 1)<30))=true:=by intro _;rfl)
  (hline:(apos.endLine==pos.line)=true:=by rfl) (hst:∀env:Env,starEach (e0 :: xs) env=(false,eval e0 env) :: starEach xs env:=by intro _;rfl) (hpl:∀env:Env,(backTo pos (starEach xs env)).any (·.1)=false:=by intro _;rfl) :
  JE G n sc N df m (.me k a es) (.Call (.Attribute xa name apos) (e0 :: xs) [] pos):=λX g=>
 PE.of (Aa pa slot hty (hm X g) (ha X g) (hs X g) (hbase _) (hfew _) hline (hst _) (hpl _)) λs H Q q=>by
  obtain⟨r,j,h,d,z,l,A,e,q⟩:=q;simp only[Ev.ev]at e;obtain⟨x,o,B,e⟩:=Ev.ah e;split at e
  .rename_i C;obtain⟨ds,p,F,e⟩:=Ev.ah e;refine⟨r,j,h,x,o,l,A,B,λv H1 I y f f1=>⟨BR f y C ht,?_⟩⟩;refine⟨I,j,o,ds,p,l.mono f1,f,F,λM H2 J L i f2=>?_⟩;exact⟨J,p,x,ds,d,z,i,y.mono f2,L,e,q.later (f1.trans f2)⟩
  .cases e
def LM {k:ME}{name:Str}{apos:Pos}{ty id:String}(pa:PlainAttrs ty) (slot:Slot ty name id) (hty:typeOf (.builtin id)=pure (.type "method_descriptor"))
  (hm:∀X,Good G n sc N df X->t9 X id (vG X.K (Ev.fL k))) (ht:ty=D6 k) (ha:JE G n sc N df m a xa)
  (hbase:∀env:Env,attributeBase xa name env (eval xa env)=eval xa env:=by intro _;rfl) (hline:(apos.endLine==pos.line)=true:=by rfl) :
  JE G n sc N df m (.me k a .nil) (.Call (.Attribute xa name apos) [] [] pos):=λX g=>
 PE.of (BF pa slot hty (hm X g) (ha X g) (hbase _) hline) λs H Q q=>by
  obtain⟨r,l,h,d,o,p,y,e,q⟩:=q;simp only[Ev.ev]at e;obtain⟨x,i,z,e⟩:=Ev.ah e;split at e
  .rename_i A;simp only[Ev.bq,Ev.ak]at e;refine⟨r,l,h,x,i,p,y,z,λv H1 B j f f1=>⟨BR f j A ht,?_⟩⟩;exact⟨B,i,x,[],d,o,f,j,.nil,e,q.later f1⟩
  .cases e
end
end Sm
namespace Sm
open PySem PySem.Spec PyProof.Rows L2
open Ev (D O Hh Fr R aQ E Es Eo T S Ss Fl Src bS bM TY BI ME)
def qu(K:PySem.W.Frag)(r0:List Addr)(H0:Hp)(s:Src)(J:L2.It):Prop:=∀(i:Nat) H1 r1 h1,HR K H1 r1 h1->Fm K r0 r1 H0 H1->Ev.stays h1 s.2=true->
 (∀d,s.1[i]?=some d->J.go i H1/\∀x H2,J.FO i H1 x H2->∃r2,RV K H2 r2 d x/\HR K H2 r2 h1/\Fm K r1 r2 H1 H2)/\(s.1.length<=i->J.stop i H1)
inductive RQ(K:PySem.W.Frag)(m:List Nat)(P:aQ)(it:Ev.It)(s:L2.St)(H:Hp)(Rr:L2.It->Hp->Prop):Prop
 |mk (r:List Addr) (fr:Fr) (h:Hh) (src:Src) (h':Hh) (c0:SR K m H r fr s) (c1:HR K H r h) (c2:Ev.dj P it fr h=.ok src h') (c3:∀J H' r',HR K H' r' h'->Fm K r r' H H'->qu K r' H' src J->Rr J H'):RQ K m P it s H Rr
def JI(G:Tb)(n:Nat)(sc:Scope)(N:List Str)(df:Bool)(m:List Nat)(it:Ev.It)(tg x:Expr):Prop:=∀X,Good G n sc N df X->PI X tg x (RQ X.K m (Ev.run G.F G.w n) it)
noncomputable def Gb(z:Str):L2.It:=⟨λi _=>i<z.length,λi H x H'=>H'=H/\∃c,z.cps[i]?=some c/\x=.str ⟨#[c]⟩,λi _=>z.length<=i⟩
def LN{M:Model}{A:Around}{E:Value->Shared->Prop}{s:Shared}{tg:Expr}{it:Value}{x:Str}{t:Tok}{Q:Unit->Shared->Prop}(hQ:Q () s):wpAny M A (letOwnedTupleGo tg it (.str x t)) Q E s:=by
 unfold letOwnedTupleGo;cases tg<;>first
  |exact ZR hQ
  | (cases it<;>exact ZR hQ)
def vH {P:Program}{w:World}{K:PySem.W.Frag}{tg:Expr}(z:Str) (t:Tok) (it:Addr) (ty:String) (hty:ty = "str_ascii_iterator" \/ty = "str_iterator") :
  Turn P w K tg (Gb z) [it] it (λi h=>h.IsStrIter it ty z t i) where
 mem:=by simp
 obj:=λi h a b f=>by
  have e:b=it:=by simpa using f
  subst e;obtain⟨o,e,c,d⟩:=a;exact⟨o,e,λv z=>by rw[d]at z;cases z⟩
 keep:=λi h l a k=>by
  obtain⟨o,e,c,d⟩:=a;exact⟨o,k it (by simp) o e,c,d⟩
 item:=by
  intro X p q r j i g s σ H E I hf a hg;subst p q r;obtain⟨f0,f1,f2,f3,f4,f5⟩:=hf it (by simp);have W:Walks X.prog X.w X.A it [it] [it] z.cps.size (SignAt z) (λi h=>h.IsStrIter it ty z t i):=by
   rcases hty with e|e
   .subst e;exact Walks.strAscii (I.ok.hd j) it z t
   .subst e;exact Walks.strWide (I.ok.hd j) it z t
  refine W.item i s _ _ hg a λv l tk C x F=>?_;obtain⟨c,u,y,rfl⟩:=C;have I1:Inv X g σ H { s with heap:=l,toks:=tk }:=I.turned (λb o f e=>F b o (by simpa using f) e) f0 f1 f3 f4 f5;exact⟨_,rfl,LN ⟨.str ⟨#[c]⟩,H,I1,⟨u,rfl⟩,⟨rfl,c,y,rfl⟩,x,λb f=>(hf b f).1⟩⟩
 done:=by
  intro X p q r j i g s σ H E I hf a hg;subst p q r;obtain⟨f0,f1,f2,f3,f4,f5⟩:=hf it (by simp);rcases hty with e|e
  .subst e;exact wpAny_pyNext_ascii_end (I.ok.hd j) a (by simpa[Str.length,Gb]using hg) λl B=>⟨rfl,I.turned (t':=s.toks) (λb o f e=>B b o f e) f0 f1 f3 f4 f5⟩
  .subst e;exact wpAny_pyNext_wide_end (I.ok.hd j) a (by simpa[Str.length,Gb]using hg) λl B=>⟨rfl,I.turned (t':=s.toks) (λb o f e=>B b o f e) f0 f1 f3 f4 f5⟩
 self:=λ_ _ _ _ _ a h=>by
  rcases hty with e|e
  .subst e;exact wpAny_pyIter_striter_ascii a h
  .subst e;exact wpAny_pyIter_striter_wide a h
def Gd(K:PySem.W.Frag)(x:V)(H:Hp)(Rr:L2.It->Hp->Prop):Prop:=
 (∃a xs,x=.ref a/\fz K H a xs/\Rr (RE K a) H)\/(∃a xs,x=.ref a/\cU K H a xs/\Rr (RG K a) H)\/∃z,x=.str z/\Rr (Gb z) H
def LO{X:Cx}{tg l:Expr}{tl:TE}{wi:TI}(hl:PE X l tl)(hw:∀s H Rr,wi s H Rr->tl s H λx H1=>Gd X.K x H1 Rr):PI X tg l wi:=by
 intro c s σ H Rr I h;refine bH (hl c s σ H _ I (hw _ _ _ h)) λv s1 ⟨x,H1,I1,g,j⟩=>?_;have f:∀(o:Obj) b,b∈[s1.heap.objs.size]->iF X c H1 b:=λo b k=>by
  have e:b=s1.heap.objs.size:=by simpa using k
  subst e;exact I1.zS (ZO _) (I1.hok.fresh (ZO _))
 rcases j with ⟨a,r,rfl,i,q⟩|⟨a,r,rfl,i,q⟩|⟨z,rfl,q⟩
 .cases g;obtain⟨d,rv,p,y⟩:=I1.list i;refine wpAny_pyIter_list p.isList ?_;exact⟨s1.heap.objs.size,[s1.heap.objs.size],_,_,H1,rfl,I1.kept (t':=s1.toks) λb o e=>ZK _ e,Br a _,⟨_,Z1 _ rfl,rfl,rfl⟩,f default,q⟩
 .cases g;obtain⟨d,rv,p,y⟩:=I1.tuple i;refine wpAny_pyIter_tuple (show s1.heap.IsTuple a d.toArray from p) ?_;exact⟨s1.heap.objs.size,[s1.heap.objs.size],_,_,H1,rfl,I1.kept (t':=s1.toks) λb o e=>ZK _ e,zT a _,⟨_,Z1 _ rfl,rfl,rfl⟩,f default,q⟩
 .obtain⟨t,rfl⟩:=g;cases ha:z.cps.all (· < 128)
  .refine wpAny_pyIter_wide ha ?_;exact⟨s1.heap.objs.size,[s1.heap.objs.size],_,_,H1,rfl,I1.kept (t':=s1.toks) λb o e=>ZK _ e,vH z t _ _ (.inr rfl),⟨_,Z1 _ rfl,rfl,rfl⟩,f default,q⟩
  .refine wpAny_pyIter_ascii ha ?_;exact⟨s1.heap.objs.size,[s1.heap.objs.size],_,_,H1,rfl,I1.kept (t':=s1.toks) λb o e=>ZK _ e,vH z t _ _ (.inl rfl),⟨_,Z1 _ rfl,rfl,rfl⟩,f default,q⟩
def BU{h:Hh}{n:Nat}{ds:List D}(e:Ev.stays h [(n,ds)]=true):Ev.bB h n=some ds:=by
 simp only[Ev.stays,Bool.and_true]at e;split at e
 .rename_i a q;rw[q,(Ev.uc _ _).mp e]
 .cases e
def ID{K:PySem.W.Frag}{H:Hp}{r:List Addr}{h:Hh}{d:D}{v:V}{src:Src}{Rr:L2.It->Hp->Prop}(hr:HR K H r h)(v1:RV K H r d v)(e:Ev.fP h d=some src)(q:∀J,qu K r H src J->Rr J H):Gd K v H Rr:=by
 cases d with
 |tup ds=>
  simp only[RV]at v1;obtain⟨a,j,rfl,z,w⟩:=v1;cases e;refine .inr (.inl ⟨a,j,rfl,z,q _ λi H1 o I b f1 B=>⟨λL f=>?_,λp=>?_⟩⟩)
  .obtain⟨u,A,g⟩:=w.get f;refine⟨⟨j,u,f1.tups _ _ z,A⟩,λx H2 y=>?_⟩;obtain⟨rfl,y⟩:=y;have:=y j (f1.tups _ _ z);rw[A]at this;cases this;exact⟨o,g.mono f1,b,.refl⟩
  .exact⟨j,f1.tups _ _ z,by rw[w.length];exact p⟩
 |str l=>
  simp only[RV]at v1;obtain⟨rfl,z⟩:=v1;cases e;refine .inr (.inr ⟨_,rfl,q _ λi H1 o I b f1 B=>⟨λL f=>?_,λp=>?_⟩⟩)
  .rw[Z7]at f;cases g:l[i]? with
   |none=>rw[g]at f;cases f
   |some c=>
    rw[g]at f;cases f;refine⟨by show i<(ay l).length;rw[dg];exact(List.getElem?_eq_some_iff.mp g).1,λx H2 y=>?_⟩;obtain⟨rfl,Z,M,rfl⟩:=y;have C:(ay l).cps[i]?=some c:=by simp[ay,g]
    rw[C]at M;cases M;exact⟨o,⟨rfl,by show 1<=sizeLine;decide⟩,b,.refl⟩
  .show(ay l).length<=i;rw[dg];simpa using p
 |ref k=>
  simp only[RV]at v1;obtain⟨a,rfl,z⟩:=v1;simp only[Ev.fP,Vw]at e;obtain⟨ds,A,rfl⟩:=e;obtain⟨X,j,g,C,e4⟩:=hr.read A;rw[z]at g;cases g;refine .inl ⟨a,j,rfl,C,q _ λi H1 o I b f1 B=>?_⟩;obtain⟨X,F,N,G,P⟩:=b.read (BU B);rw[f1.pre _ _ z]at N;cases N;refine⟨λL f=>?_,λp=>⟨F,G,by rw[P.length];exact p⟩⟩;obtain⟨u,Q,Y⟩:=P.get f;refine⟨⟨F,u,G,Q⟩,λx H2 y=>?_⟩;obtain⟨rfl,y⟩:=y;have:=y F G;rw[Q]at this;cases this;exact⟨o,Y,b,.refl⟩
 |_=>cases e
section
variable{G:Tb}{n:Nat}{sc:Scope}{N:List Str}{df:Bool}{m:List Nat}{a b:E}{xa xb tg:Expr}{pos:Pos}
def LP(ha:JE G n sc N df m a xa):JI G n sc N df m (.seq a) tg xa:=λX g=>LO (ha X g) λs H Rr q=>by
 obtain⟨r,f,h,src,x,i,j,e,q⟩:=q;simp only[Ev.dj]at e;obtain⟨d,y,k,e⟩:=Ev.ah e;obtain⟨e,rfl⟩:=Ev.aI e;refine⟨r,f,h,d,_,i,j,k,λv H1 l o c f1=>?_⟩;exact ID c o e λJ p=>q J H1 l c f1 p
def PI.of{X:Cx}{tg l:Expr}{t t':TI}(h:PI X tg l t)(w:∀s H Q,t' s H Q->t s H Q):PI X tg l t':=λpins s σ H Q I q=>h pins s σ H Q I (w _ _ _ q)
def BV{K:PySem.W.Frag}{r:List Addr}{H:Hp}(lo:Int)(k:Nat):qu K r H (Ev.range lo k,[]) (Bq lo k):=λi H1 g p c f1 q=>by
 refine⟨λd e=>?_,λh=>?_⟩
 .simp only[Ev.range,Z7]at e;cases e2:(List.range k)[i]? with
  |none=>rw[e2]at e;cases e
  |some j=>
   rw[e2]at e;cases e;have f:i<k:=by simpa using (List.getElem?_eq_some_iff.mp e2).1
   have l:j=i:=by
    rw[aaq f]at e2;exact(Vb e2).symm
   subst l;refine⟨f,λx H2 y=>?_⟩;obtain⟨rfl,rfl⟩:=y;exact⟨g,rfl,c,.refl⟩
 .have:(Ev.range lo k).length=k:=by simp[Ev.range]
  show k<=i;have o:(Ev.range lo k).length<=i:=h;omega
def IE {e1:E}{p:Pos}(hs:JA G n sc N df m (.cons e1 .nil) [xa]) (hg:sc.names.lookup ("range" : Str)=some .globalImplicit:=by rfl) (hb:("range" : Str)∈G.bl:=by decide +kernel)
  (hst:∀env:Env,starEach [xa] env=[(false,eval xa env)]:=by intro _;rfl):JI G n sc N df m (.fh (.cons e1 .nil)) tg (.Call (.Name "range" p) [xa] [] pos):=λX g=>
 PI.of (Bs (g.gl hg) (g.bl _ hb) (hs X g) (hst _)) λs H Rr q=>by
  obtain⟨r,k,h,src,y,l,o,e,q⟩:=q;simp only[Ev.dj]at e;obtain⟨ds,z,e1,e⟩:=Ev.ah e;obtain⟨e,rfl⟩:=Ev.aI e;refine⟨r,k,h,ds,_,l,o,e1,λA H1 x f c f1=>?_⟩;unfold Ev.dw at e;split at e
  .rename_i j;split at e
   .rename_i i;cases e;simp only[aG,RV]at f;obtain⟨v,w,rfl,rfl,rfl⟩:=f;exact⟨_,rfl,i.1,i.2,q _ H1 x c f1 (BV 0 _)⟩
   .cases e
  .exfalso;simp only[Ev.bq]at e1;obtain⟨d,_,_,e1⟩:=Ev.ah e1;simp only[Ev.ak]at e1;cases e1
  .exfalso;simp only[Ev.bq]at e1;obtain⟨d,_,_,e1⟩:=Ev.ah e1;simp only[Ev.ak]at e1;cases e1
  .cases e
def IF {e1 e2:E}{p:Pos}(hs:JA G n sc N df m (.cons e1 (.cons e2 .nil)) [xa,xb]) (hg:sc.names.lookup ("range" : Str)=some .globalImplicit:=by rfl) (hb:("range" : Str)∈G.bl:=by decide +kernel)
  (hst:∀env:Env,starEach [xa,xb] env=[(false,eval xa env),(false,eval xb env)]:=by intro _;rfl) (D7:∀env:Env,starEach [xb] env=[(false,eval xb env)]:=by intro _;rfl) :
  JI G n sc N df m (.fh (.cons e1 (.cons e2 .nil))) tg (.Call (.Name "range" p) [xa,xb] [] pos):=λX g=>
 PI.of (Bt (g.gl hg) (g.bl _ hb) (hs X g) (hst _) (D7 _)) λs H Rr q=>by
  obtain⟨r,k,h,src,C,l,o,e,q⟩:=q;simp only[Ev.dj]at e;obtain⟨ds,F,e1,e⟩:=Ev.ah e;obtain⟨e,rfl⟩:=Ev.aI e;refine⟨r,k,h,ds,_,l,o,e1,λI H1 x f c f1=>?_⟩;unfold Ev.dw at e;split at e
  .exfalso;simp only[Ev.bq]at e1;obtain⟨d,_,_,e1⟩:=Ev.ah e1;obtain⟨y,_,e2,e1⟩:=Ev.ah e1;obtain⟨z,_,A,e2⟩:=Ev.ah e2;simp only[Ev.ak]at e2;cases e2;cases e1
  .rename_i i j;split at e
   .rename_i B;cases e;simp only[aG,RV]at f;obtain⟨v,w,rfl,rfl,J,K,rfl,rfl,rfl⟩:=f;exact⟨_,_,rfl,B,q _ H1 x c f1 (BV _ _)⟩
   .cases e
  .exfalso;simp only[Ev.bq]at e1;obtain⟨d,_,_,e1⟩:=Ev.ah e1;obtain⟨y,_,e2,e1⟩:=Ev.ah e1;obtain⟨z,_,A,e2⟩:=Ev.ah e2;simp only[Ev.ak]at e2;cases e2;cases e1
  .cases e
inductive gJ(K:PySem.W.Frag)(m:List Nat)(t:T)(v:V)(s:L2.St)(H:Hp)(Q:L2.St->Hp->Prop):Prop
 |mk (r:List Addr) (fr:Fr) (h:Hh) (d:D) (aj:Fr) (c0:SR K m H r fr s) (c1:HR K H r h) (c2:RV K H r d v) (c3:Ev.cI t d fr=some aj) (c4:∀s',SR K m H r aj s'->Q s' H):gJ K m t v s H Q
def JG(G:Tb)(n:Nat)(sc:Scope)(N:List Str)(df:Bool)(m:List Nat)(t:T)(x:Expr):Prop:=∀X,Good G n sc N df X->PG X x (gJ X.K m t)
def PG.of{X:Cx}{e:Expr}{t t':TG}(h:PG X e t)(w:∀v s H Q,t' v s H Q->t v s H Q):PG X e t':=λpins s σ H v u Q I r q=>h pins s σ H v u Q I r (w _ _ _ _ q)
theorem SR.set{K:PySem.W.Frag}{m:List Nat}{H:Hp}{r:List Addr}{fr:Fr}{s:L2.St}(sr:SR K m H r fr s)(hm:m.Nodup){j i:Nat}(hj:m[j]?=some i){d:D}{v:V}(v1:RV K H r d v):SR K m H r (fr.set i (some d)) (s.set j (some v)):=by
 refine⟨by simp[sr.len],λk f l e c=>?_⟩;by_cases g:f=i
 .subst g;have:k=j:=BW hm e hj;subst this;have h:f<fr.length:=by
   have:=(List.getElem?_eq_some_iff.mp c).1;simpa using this
  rw[ZP h]at c;cases c;refine⟨v,ZP ?_,v1⟩;rw[sr.len];exact(List.getElem?_eq_some_iff.mp hj).1
 .rw[Kc (λz=>g z.symm)]at c;obtain⟨u,o,p⟩:=sr.sl k f l e c;refine⟨u,?_,p⟩;rw[Kc]
  .exact o
  .intro z;subst z;rw[hj]at e;cases e;exact g rfl
where
 BW {l:List Nat} (hl:l.Nodup) {i j:Nat} {x:Nat} (a:l[i]?=some x) (b:l[j]?=some x):i=j:=by
  have ha:=(List.getElem?_eq_some_iff.mp a)
  have hb:=(List.getElem?_eq_some_iff.mp b)
  obtain⟨h1,e1⟩:=ha;obtain⟨h2,e2⟩:=hb;exact(abB hl).mp (e1.trans e2.symm)
def Good.loc{X:Cx}(g:Good G n sc N df X){x:Str}(h:sc.names.lookup x=some .local\/(df=true/\sc.names.lookup x=some .cell)):Loc X.env.scope x/\(X.fn x=true\/X.env.scope.names.lookup x=some .local):=by
 rw[show Loc X.env.scope x↔Loc sc x by rw[g.sc],g.sc];rcases h with h|⟨c,h⟩
 .exact⟨.inl h,.inr h⟩
 .exact⟨.inr h,.inl (g.own c x)⟩
def LQ(j i:Nat){x:Str}(hm:m.Nodup)(hN:N.Nodup)(hj:m[j]?=some i:=by rfl)(BX:N[j]?=some x:=by rfl)
  (hl:sc.names.lookup x=some .local\/(df=true/\sc.names.lookup x=some .cell):=by first|exact Or.inl rfl|exact Or.inr ⟨rfl,rfl⟩):JG G n sc N df m (.one i) (.Name x pos):=λX g=>by
 obtain⟨c,f⟩:=g.loc hl;refine PG.of (yj (i:=j) (by rw[g.nm];exact hN) (by rw[g.nm];exact BX) c f) λv s H Q q=>?_;obtain⟨r,o,h,d,p,k,y,l,e,q⟩:=q;cases e;exact q _ (k.set hm hj l)
inductive RS(K:PySem.W.Frag)(m:List Nat)(l:List Nat)(vs:List V)(s:L2.St)(H:Hp)(Q:L2.St->Hp->Prop):Prop
 |mk (r:List Addr) (fr:Fr) (h:Hh) (ds:List D) (aj:Fr) (c0:SR K m H r fr s) (c1:HR K H r h) (c2:aG K H r ds vs) (c3:Ev.cV l ds fr=some aj) (c4:∀s',SR K m H r aj s'->Q s' H):RS K m l vs s H Q
def ue(G:Tb)(n:Nat)(sc:Scope)(N:List Str)(df:Bool)(m:List Nat)(l:List Nat)(xs:List Expr):Prop:=∀X,Good G n sc N df X->pV X xs (RS X.K m l)
def pV.of{X:Cx}{e:List Expr}{t t':tY}(h:pV X e t)(w:∀v s H Q,t' v s H Q->t v s H Q):pV X e t':=λpins s σ H v u Q I r q=>h pins s σ H v u Q I r (w _ _ _ _ q)
def IG:ue G n sc N df m [] []:=λX g=>pV.of Ib λf s H Q q=>by
 obtain⟨r,i,h,ds,j,d,k,c,e,q⟩:=q;cases ds with
 |nil=>simp only[aG]at c;subst c;cases e;exact⟨rfl,q _ d⟩
 |cons _ _=>cases e
def D8(j i:Nat){x:Str}{l:List Nat}{xs:List Expr}(hm:m.Nodup)(hN:N.Nodup)(hs:ue G n sc N df m l xs)(hj:m[j]?=some i:=by rfl)(BX:N[j]?=some x:=by rfl)
  (hl:sc.names.lookup x=some .local\/(df=true/\sc.names.lookup x=some .cell):=by first|exact Or.inl rfl|exact Or.inr ⟨rfl,rfl⟩)
  (hst:∀env:Env,(assignEach (.Name x pos :: xs) env).map (·.2)=assign (.Name x pos) env :: (assignEach xs env).map (·.2):=by intro _;rfl):ue G n sc N df m (i :: l) (.Name x pos :: xs):=λX g=>by
 obtain⟨f,k⟩:=g.loc hl;refine pV.of (DL (yj (i:=j) (by rw[g.nm];exact hN) (by rw[g.nm];exact BX) f k) (hs X g) (hst _)) λB s H Q q=>?_;obtain⟨r,C,h,ds,o,p,y,c,e,q⟩:=q;cases ds with
 |nil=>cases e
 |cons d ds=>
  simp only[aG]at c;obtain⟨v,w,rfl,z,A⟩:=c;exact⟨v,w,rfl,r,_,h,ds,o,p.set hm hj z,y,A,e,q⟩
def II{l:List Nat}{xs:List Expr}{k:Nat}(hs:ue G n sc N df m l xs)(hn:∀env:Env,(assignEach xs env).length=l.length:=by intro _;rfl)(hst:∀env:Env,(assignEach xs env).findIdx? (·.1)=none:=by intro _;rfl) :
  JG G n sc N df m (.many l) (.Tuple xs k pos):=λX g=>PG.of (KS (n:=l.length) g.calm (hs X g) (hn _) (hst _)) λv s H Q q=>by
 obtain⟨r,c,h,d,f,x,y,o,e,q⟩:=q;cases d with
 |tup ds=>
  simp only[RV]at o;obtain⟨p,A,rfl,z,w⟩:=o;have j:∀(l:List Nat) (ds:List D) c f,Ev.cV l ds c=some f->ds.length=l.length:=by
   intro l;induction l with
   |nil=>intro ds c f e;cases ds with|nil=>rfl|cons _ _=>cases e
   |cons i l B=>intro ds c f e;cases ds with|nil=>cases e|cons d ds=>simp[B ds _ _ e]
  exact⟨p,A,rfl,z,by rw[w.length];exact j _ _ _ _ e,r,c,h,ds,f,x,y,w,e,q⟩
 |_=>cases e
end
def Fin(K:PySem.W.Frag)(m:List Nat)(r:List Addr)(H:Hp)(h':Hh)(fl:Fl)(aj:Fr)(Q:Ends):Prop:=match fl with
 |.nx=>∀s' H' r',SR K m H' r' aj s'->HR K H' r' h'->Fm K r r' H H'->Q.nx s' H'
 |.bk=>∀s' H' r',SR K m H' r' aj s'->HR K H' r' h'->Fm K r r' H H'->Q.bk s' H'
 |.ct=>∀s' H' r',SR K m H' r' aj s'->HR K H' r' h'->Fm K r r' H H'->Q.ct s' H'
 |.ret d=>Res K r H h' d Q.rt
theorem Fin.later{K:PySem.W.Frag}{m:List Nat}{r r':List Addr}{H H':Hp}{h':Hh}{fl:Fl}{aj:Fr}{Q:Ends}(q:Fin K m r H h' fl aj Q)(f:Fm K r r' H H'):Fin K m r' H' h' fl aj Q:=by
 cases fl with
 |nx=>exact λs2 H2 c a b g=>q s2 H2 c a b (f.trans g)
 |bk=>exact λs2 H2 c a b g=>q s2 H2 c a b (f.trans g)
 |ct=>exact λs2 H2 c a b g=>q s2 H2 c a b (f.trans g)
 |ret d=>exact Res.later q f
inductive RT(K:PySem.W.Frag)(m:List Nat)(P:aQ)(w:Nat)(st:S)(Q:Ends)(s:L2.St)(H:Hp):Prop
 |mk (r:List Addr) (fr:Fr) (h:Hh) (fl:Fl) (aj:Fr) (h':Hh) (c0:SR K m H r fr s) (c1:HR K H r h) (c2:Ev.ex P w st fr h=.ok (fl,aj) h') (c3:Fin K m r H h' fl aj Q):RT K m P w st Q s H
inductive D9(K:PySem.W.Frag)(m:List Nat)(P:aQ)(w:Nat)(ss:Ss)(Q:Ends)(s:L2.St)(H:Hp):Prop
 |mk (r:List Addr) (fr:Fr) (h:Hh) (fl:Fl) (aj:Fr) (h':Hh) (c0:SR K m H r fr s) (c1:HR K H r h) (c2:Ev.exs P w ss fr h=.ok (fl,aj) h') (c3:Fin K m r H h' fl aj Q):D9 K m P w ss Q s H
def PS.of{X:Cx}{st:Stmt}{t t':TS}(h:PS X st t)(w:∀Q s H,t' Q s H->t Q s H):PS X st t':=λpins s σ H Q I q=>h pins s σ H Q I (w _ _ _ q)
def gf.of{X:Cx}{st:List Stmt}{t t':TS}(h:gf X st t)(w:∀Q s H,t' Q s H->t Q s H):gf X st t':=λpins s σ H Q I q=>h pins s σ H Q I (w _ _ _ q)
section
variable(G:Tb)(n:Nat)(sc:Scope)(N:List Str)(df:Bool)(m:List Nat)
def JS(st:S)(x:Stmt):Prop:=∀X,Good G n sc N df X->PS X x (RT X.K m (Ev.run G.F G.w n) G.w st)
def lI(ss:Ss)(xs:List Stmt):Prop:=∀X,Good G n sc N df X->gf X xs (D9 X.K m (Ev.run G.F G.w n) G.w ss)
end
section
variable{G:Tb}{n:Nat}{sc:Scope}{N:List Str}{df:Bool}{m:List Nat}{a b:E}{xa tg:Expr}{pos:Pos}
def IJ:lI G n sc N df m .nil []:=λX g=>gf.of sH λQ s H q=>by
 obtain⟨r,f,h,fl,i,j,c,d,e,q⟩:=q;simp only[Ev.exs]at e;cases e;exact q s H r c d .refl
def Ea{st:S}{ss:Ss}{x:Stmt}{xs:List Stmt}(h1:JS G n sc N df m st x)(h2:lI G n sc N df m ss xs):lI G n sc N df m (.cons st ss) (x :: xs):=λX g=>gf.of (gZ (h1 X g) (h2 X g)) λQ s H q=>by
 obtain⟨r,j,h,fl,k,l,o,p,e,q⟩:=q;simp only[Ev.exs]at e;obtain⟨⟨f,i⟩,h1,y,e⟩:=Ev.ah e;refine⟨r,j,h,f,i,h1,o,p,y,?_⟩;cases f with
 |nx=>exact λs1 H1 z A c f1=>⟨z,i,h1,fl,k,l,A,c,e,q.later f1⟩
 |bk=>cases e;exact q
 |ct=>cases e;exact q
 |ret d=>cases e;exact q
def LR(j i:Nat){x:Str}{pos':Pos}(hm:m.Nodup)(hN:N.Nodup)(ha:JE G n sc N df m a xa)(hs:∀env:Env,swapsWith xa (some (.Name x pos')) pos.line env=pure false:=by intro _;rfl)(hj:m[j]?=some i:=by rfl)(BX:N[j]?=some x:=by rfl)
  (hl:sc.names.lookup x=some .local\/(df=true/\sc.names.lookup x=some .cell):=by first|exact Or.inl rfl|exact Or.inr ⟨rfl,rfl⟩):JS G n sc N df m (.set i a) (.Assign [.Name x pos'] xa pos):=λX g=>by
 obtain⟨f,l⟩:=g.loc hl;refine PS.of (vh (i:=j) (by rw[g.nm];exact hN) (by rw[g.nm];exact BX) f (ha X g) (hs _) l) λQ s H q=>?_;obtain⟨r,o,h,fl,B,C,k,p,e,q⟩:=q;simp only[Ev.fj]at e;obtain⟨d,f,y,e⟩:=Ev.ah e;cases e;exact⟨r,o,h,d,_,k,p,y,λv H1 z A c f1=>q _ H1 z ((k.mono f1).set hm hj A) c f1⟩
def LS(ha:JE G n sc N df m a xa)(hs:∀env:Env,swapsWith xa none pos.line env=pure false:=by intro _;rfl):JS G n sc N df m (.exp a) (.Expr xa pos):=λX g=>PS.of (Ia (ha X g) (hs _)) λQ s H q=>by
 obtain⟨r,i,h,fl,o,p,f,j,e,q⟩:=q;simp only[Ev.fj]at e;obtain⟨d,x,k,e⟩:=Ev.ah e;cases e;exact⟨r,i,h,d,_,f,j,k,λv H1 l y c f1=>q s H1 l (f.mono f1) c f1⟩
def LU(ha:JE G n sc N df m a xa):JS G n sc N df m (.ret a) (.Return (some xa) pos):=λX g=>PS.of (Bp (ha X g)) λQ s H q=>by
 obtain⟨r,c,h,fl,k,l,f,i,e,q⟩:=q;simp only[Ev.fj]at e;obtain⟨d,o,j,e⟩:=Ev.ah e;cases e;exact⟨r,c,h,d,_,f,i,j,q⟩
def LV{ta tb:Ss}{ya yb:List Stmt}(hc:JT G n sc N df m a xa)(h1:lI G n sc N df m ta ya)(h2:lI G n sc N df m tb yb):JS G n sc N df m (.iff a ta tb) (.If xa ya yb pos):=λX g=>PS.of (Qn (hc X g) (h1 X g) (h2 X g)) λQ s H q=>by
 obtain⟨r,d,h,fl,j,l,f,p,e,q⟩:=q;simp only[Ev.fj]at e;obtain⟨k,i,x,e⟩:=Ev.ah e;refine⟨r,d,h,k,i,f,p,x,λH1 o c f1=>?_⟩;cases k with
 |true=>exact⟨o,d,i,fl,j,l,f.mono f1,c,e,q.later f1⟩
 |false=>exact⟨o,d,i,fl,j,l,f.mono f1,c,e,q.later f1⟩
def Good.pass{X:Cx}(g:Good G n sc N df X):PassesOwn (model X.prog X.w) X.A X.env X.xe:=by
 rw[g.xe];exact PassesOwn.never
def FN(K:PySem.W.Frag)(m:List Nat)(iu:Fl)(jE:Fr)(h4:Hh)(r1:List Addr)(H1:Hp)(s5:L2.St)(H5:Hp):Prop:=(iu=.nx\/iu=.ct)/\∃r5,SR K m H5 r5 jE s5/\HR K H5 r5 h4/\Fm K r1 r5 H1 H5
section
variable{K:PySem.W.Frag}{r r1 r2:List Addr}{H H1 H2:Hp}{h4 h':Hh}{fl iu:Fl}{jE aj:Fr}{Q:Ends}
noncomputable def Ak(L:R (Fl×Fr))(p:Fl×Fr)(h1:Hh):R (Fl×Fr):=match p.1 with
 |.nx=>L
 |.ct=>L
 |.bk=>.ok (.nx,p.2) h1
 |.ret x=>.ok (.ret x,p.2) h1
def yx{L:R (Fl×Fr)}(e:Ak L (iu,jE) h4=.ok (fl,aj) h')(z:iu=.nx\/iu=.ct):L=.ok (fl,aj) h':=by rcases z with rfl|rfl<;>exact e
def vJ{L:R (Fl×Fr)}(e:Ak L (iu,jE) h4=.ok (fl,aj) h')(q:Fin K m r H h' fl aj Q)(f:Fm K r r1 H H1)(f2:Fm K r1 r2 H1 H2):Fin K m r2 H2 h4 iu jE { Q with nx:=FN K m iu jE h4 r1 H1,ct:=FN K m iu jE h4 r1 H1,bk:=Q.nx }:=by
 cases iu with
 |nx=>exact λs6 H6 c BY BZ f6=>⟨.inl rfl,c,BY,BZ,f2.trans f6⟩
 |ct=>exact λs6 H6 c BY BZ f6=>⟨.inr rfl,c,BY,BZ,f2.trans f6⟩
 |bk=>
  cases e;exact λs6 H6 c BY BZ f6=>q s6 H6 c BY BZ ((f.trans f2).trans f6)
 |ret d=>
  cases e;exact Res.later q (f.trans f2)
noncomputable def vK(P:aQ)(w:Nat)(t:T)(tb:Ss):D->Fr->Hh->R (Fl×Fr):=λd c e=>match Ev.cI t d c with
 |some f=>Ev.exs P w tb f e
 |none=>.bad
def vL(P:aQ)(w:Nat)(t:T)(it:Ev.It)(tb:Ss)(fr:Fr)(h:Hh):Ev.ex P w (.for t it tb) fr h=(Ev.dj P it fr h).bind λs h1=>Ev.forL (vK P w t tb) s.2 s.1 fr h1:=by simp only[Ev.fj];rfl
def uf(f:D->Fr->Hh->R (Fl×Fr))(ck:List (Nat×List D))(d:D)(ds:List D)(fr:Fr)(h:Hh):Ev.forL f ck (d :: ds) fr h=if Ev.stays h ck then (f d fr h).bind λp h1=>Ak (Ev.forL f ck ds p.2 h1) p h1 else .bad:=rfl
def FW(K:PySem.W.Frag)(m:List Nat)(f:D->Fr->Hh->R (Fl×Fr))(src:Src)(r1:List Addr)(H1:Hp)(o:Fl×Fr)(h':Hh)(i k:Nat)(s3:L2.St)(H3:Hp):Prop:=
 k=src.1.length - i/\i<=src.1.length/\∃r3 cF h3,SR K m H3 r3 cF s3/\HR K H3 r3 h3/\Fm K r1 r3 H1 H3/\Ev.forL f src.2 (src.1.drop i) cF h3=.ok o h'
def Eb{P:aQ}{w:Nat}{t:T}{tb:Ss}{src:Src}{J:L2.It}{i k:Nat}{s3:L2.St}{H3:Hp}(hJ:qu K r1 H1 src J)(q:Fin K m r H h' fl aj Q)(f1:Fm K r r1 H H1)(hW:FW K m (vK P w t tb) src r1 H1 (fl,aj) h' i k s3 H3) :
  (J.stop i H3/\Q.nx s3 H3)\/(J.go i H3/\∃N:L2.St->Hp->Prop,(∀σ' H',N σ' H'->∃m',m'<k/\FW K m (vK P w t tb) src r1 H1 (fl,aj) h' (i+1) m' σ' H')/\∀x H',J.FO i H3 x H'->gJ K m t x s3 H' λσ2 H2=>D9 K m P w tb { Q with nx:=N,ct:=N,bk:=Q.nx } σ2 H2):=by
 obtain⟨rfl,g,h,B,j,z,l,f3,c⟩:=hW;rcases Nat.lt_or_ge i src.1.length with d|o
 .rw[aaE d,uf]at c;split at c
  .rename_i e;obtain⟨C,F⟩:=(hJ i H3 h j l f3 e).1 src.1[i] (Rx d);obtain⟨⟨iu,jE⟩,h4,f,c⟩:=Ev.ah c;unfold vK at f;split at f
   .rename_i A I;exact .inr ⟨C,FN K m iu jE h4 r1 H1,λs5 H5 ⟨p,L,B3,M,f5⟩=>⟨_,acz d (aba i),rfl,d,L,jE,h4,B3,M,f5,yx c p⟩,λx H4 y=>
     let ⟨r4,v4,RU,f4⟩:=F x H4 y
     ⟨r4,B,j,_,A,z.mono f4,RU,v4,I,λs5 B3=>⟨r4,A,j,iu,jE,h4,B3,RU,f,vJ c q f1 (f3.trans f4)⟩⟩⟩
   .cases f
  .cases c
 .have X:i=src.1.length:=Nat.le_antisymm g o;subst X;rw[ab0]at c;unfold Ev.forL at c;split at c
  .rename_i e;cases c;exact .inl ⟨(hJ _ H3 h _ l f3 e).2 (ZO _),q s3 H3 h z l (f1.trans f3)⟩
  .cases c
end
def B4(t:Fr->Hh->R Bool)(f:Fr->Hh->R (Fl×Fr))(n:Nat)(fr:Fr)(h:Hh):Ev.eg t f (n+1) fr h=(t fr h).bind λb h1=>if b then (f fr h1).bind λp h2=>Ak (Ev.eg t f n p.2 h2) p h2 else .ok (.nx,fr) h1:=rfl
def WW(K:PySem.W.Frag)(m:List Nat)(P:aQ)(w:Nat)(a:E)(tb:Ss)(r:List Addr)(H:Hp)(o:Fl×Fr)(h':Hh)(k:Nat)(s1:L2.St)(H1:Hp):Prop:=
 ∃r1 af h1,SR K m H1 r1 af s1/\HR K H1 r1 h1/\Fm K r r1 H H1/\Ev.eg (λc d=>Ev.aM P a c d) (λc d=>Ev.exs P w tb c d) k af h1=.ok o h'
def LW{tb:Ss}{yb:List Stmt}(hc:JT G n sc N df m a xa)(h1:lI G n sc N df m tb yb):JS G n sc N df m (.pY a tb) (.While xa yb [] pos):=λX g=>PS.of (DM g.pass (hc X g) (h1 X g)) λQ s H q=>by
 obtain⟨r,B,h,fl,C,I,J,L,e,q⟩:=q;simp only[Ev.fj]at e;refine⟨WW X.K m (Ev.run G.F G.w n) G.w a tb r H (fl,C) I,⟨_,r,B,h,J,L,.refl,e⟩,λk s1 H1 M=>?_⟩;obtain⟨P,p,h1,f,i,f1,c⟩:=M;cases k with
 |zero=>cases c
 |succ k=>
  rw[B4]at c;obtain⟨x,y,W,c⟩:=Ev.ah c;refine⟨P,p,h1,x,y,f,i,W,λH2 z d f2=>?_⟩;cases x with
  |false=>
   cases c;exact q s1 H2 z (f.mono f2) d (f1.trans f2)
  |true=>
   rw[xC rfl]at c;obtain⟨⟨A,j⟩,l,Y,c⟩:=Ev.ah c;exact⟨FN X.K m A j l r H,λs3 H3 ⟨o,Z,yy,qW,f3⟩=>⟨k,aba k,Z,j,l,yy,qW,f3,yx c o⟩,z,p,y,A,j,l,f.mono f2,d,Y,vJ c q .refl (f1.trans f2)⟩
def LX{t:T}{it:Ev.It}{tb:Ss}{yb:List Stmt}(hi:JI G n sc N df m it tg xa)(hg:JG G n sc N df m t tg)(h1:lI G n sc N df m tb yb)(hs:∀(env:Env) x,foldedSetIterable xa env x=pure x:=by intro _ _;rfl) :
  JS G n sc N df m (.for t it tb) (.For tg xa yb [] pos):=λX g=>PS.of (KY g.pass g.calm (hi X g) (hg X g) (h1 X g) (hs _)) λQ s H q=>by
 obtain⟨r,d,h,fl,o,p,f,y,e,q⟩:=q;rw[vL]at e;obtain⟨src,j,z,e⟩:=Ev.ah e;exact⟨r,d,h,src,j,f,y,z,λJ H1 l c f1 A=>⟨FW X.K m (vK (Ev.run G.F G.w n) G.w t tb) src l H1 (fl,o) p,⟨src.1.length,rfl,aaz _,l,d,j,f.mono f1,c,.refl,by rw[aaA];exact e⟩,λi k s3 H3 B=>Eb A q f1 B⟩⟩
end
def getElem?_range'{k j i:Nat}(h:(List.range k)[j]?=some i):i=j:=by
 obtain⟨b,a⟩:=List.getElem?_eq_some_iff.mp h;simpa using a.symm
def Ec{K:PySem.W.Frag}{H:Hp}{r:List Addr}{ds:List D}{vs:List V}{N:List Str}{fn:Ev.Fn}(v1:aG K H r ds vs)(hN:vs.length<=N.length):SR K (List.range N.length) H r (Ev.dz fn ds) (L2.start N vs):=by
 refine⟨by unfold L2.start;simp;omega,λj i d c a=>?_⟩;have e:=getElem?_range' c;subst e;unfold Ev.dz at a;by_cases b:i<ds.length
 .rw[gV (by simpa using b),Z7]at a;cases e4:ds[i]? with
  |none=>rw[e4]at a;cases a
  |some h=>
   rw[e4]at a;cases a;obtain⟨v,f,g⟩:=v1.get e4;refine⟨v,?_,g⟩;unfold L2.start;rw[gV (by have:=v1.length;simpa using (by omega:i<vs.length)),Z7,f];rfl
 .rw[Z5 (by simpa using Nat.not_lt.mp b),ab5]at a;split at a<;>cases a
section
variable{P:Program}{w:World}{K:PySem.W.Frag}{mg:Str->Option Value}{base:Heap}{G:Tb}
def uT(P:Program)(w:World)(K:PySem.W.Frag)(mg:Str->Option Value)(base:Heap)(G:Tb)(n:Nat):Prop:=∀(f:Nat) i,
 (G.fi++G.mi)[f]?=some i
 ->fB P w K mg base lE n i.addr i.fd i.ps (oA K G.F G.w n f)
structure Top(P:Program)(w:World)(K:PySem.W.Frag)(mg:Str->Option Value)(G:Tb):Prop where
 fn:∀(f:Nat) i,G.fi[f]?=some i->mg i.name=some (.ref i.addr)/\PySem.W.keepIn K (.ref i.addr)=true/\Binds K i.fd i.ps []
 bl:∀x∈G.bl,mg x=none
 cs:∀x d,(x,d)∈G.cs->∃v u,mg x=some u/\RelV v u/\yw K d v
 dk:∀x kvs,(x,kvs)∈G.dk->∃a,mg x=some (.ref a)/\∀h:Heap,K.In h->StrTab P w h a (tabOf kvs)
 mt:∀(f:Nat) i,G.mi[f]?=some i->PySem.W.keepIn K (.ref i.addr)=true/\Binds K i.fd i.ps []
 oc:∀base:Heap,∀o∈G.oc,∃C,D5 P w K mg base G.mi o C
def VN{fi mi:List FI}{f:Nat}{i:FI}(e:fi[f]?=some i):(fi++mi)[f]?=some i:=by rw[gV (List.getElem?_eq_some_iff.mp e).1];exact e
def VO{fi mi:List FI}{f:Nat}{i:FI}(e:mi[f]?=some i):(fi++mi)[fi.length+f]?=some i:=by rw[Z5 (by omega)];simpa using e
def IL{f:Addr}{fd:FuncData}{ps:List Str}{k:Nat}:fB P w K mg base lE 0 f fd ps (oA K G.F G.w 0 k):=by
 have c:∀a H Q E,¬ oA K G.F G.w 0 k a H Q E:=λa H Q E h=>by
  obtain⟨r,h,ds,d,g,_,_,e,_⟩:=h;cases e
 exact⟨λa H Q E h=>absurd h (c a H Q E),λA b s H args i a Q E _ _ _ _ h=>absurd h (c a H Q E)⟩
def cD{x qual:Str}{st:Stmt}{i:FI}{N:List Str}{n f:Nat}{fn:Ev.Fn}(T:Top P w K mg G)(A0:uT P w K mg base G n)(F:qS K x qual st i.addr i.fd)(S:bg N i.ps (aK st))(hf:G.F[f]?=some fn)(hp:i.ps.length=fn.np)
  (hb:lI G n (aK st) N true (List.range N.length) fn.body (fW st)):fB P w K mg base lE (n+1) i.addr i.fd i.ps (oA K G.F G.w (n+1) f):=by
 have a:∀j H Q E,oA K G.F G.w (n+1) f j H Q E->j.length=i.ps.length:=λj H Q E h=>by
  obtain⟨r,h,ds,d,B,k,_,e,_⟩:=h;simp only[Ev.gz,hf]at e;split at e
  .rename_i z;rw[k.length,z,hp]
  .cases e
 refine F.ok S a λl A c s H j Q E C y=>?_;have Z:=a j H Q E y;have I:j.length<=N.length:=by
  have:=Z0 List.length S.pre;rw[aaZ]at this;omega
 have g:Good G n (aK st) N true (qs lE P w K mg base N qual (aK st) i.addr l A c s H E).tW:=
  ⟨rfl,rfl,rfl,λ_ _=>rfl,C,rfl,λf i b=>⟨(T.fn f i b).1,(T.fn f i b).2.1,(T.fn f i b).2.2,A0 f i
   (VN
   b
   )
   ⟩,T.bl,T.cs,T.dk
   ,λf i b=>⟨(T.mt f i b).1,(T.mt f i b).2,A0 _ i (VO b)⟩,T.oc _
   ⟩
 refine⟨_,hb _ g,?_⟩;obtain⟨r,h,ds,d,B,k,o,e,q⟩:=y;simp only[Ev.gz,hf]at e;split at e
 .unfold Ev.endOf at e;obtain⟨⟨fl,J⟩,L,M,e⟩:=Ev.ah e;refine⟨r,Ev.dz fn ds,h,fl,J,L,Ec k I,o,M,?_⟩;cases fl with
  |nx=>
   cases e;exact λs' H' X _ p Y=>q _ H' X rfl p Y
  |ret d'=>
   cases e;exact q
  |bk=>cases e
  |ct=>cases e
 .cases e
end
end Sm
namespace Sm
open PySem PySem.Spec PyProof.Rows L2 PySem.SeqAt
open Ev (D O Hh Fr R aQ E Es Eo T S Ss Fl Src bS bM TY BI ME)
end Sm
namespace Sm
open PySem PySem.Spec PyProof.Rows L2
open Ev (D O Hh Fr R aQ E Es Eo T S Ss Fl Src bS bM TY BI ME)
theorem sR(env:Env):∀(names:List (Str×NameKind)) (acc:List (Str×Addr)),(∀x,(x,NameKind.free)∈names->∃c,env.cells.lookup x=some c)->(∀x c,acc.lookup x=some c->env.cells.lookup x=some c)->
  ∃cl,(forIn names acc (λ(x:Str×NameKind) cs=>if (x.2==NameKind.free)=true then (do let c <-cellOf env x.1;pure (ForInStep.yield ((x.1,c) :: cs)))else pure (ForInStep.yield cs)):Sem (List (Str×Addr)))=pure cl/\
   (∀x c,cl.lookup x=some c->env.cells.lookup x=some c)/\(∀x,(x,NameKind.free)∈names->(cl.lookup x).isSome=true)/\(∀x,(acc.lookup x).isSome=true->(cl.lookup x).isSome=true)
 |[],acc,_,h2=>⟨acc,rfl,h2,(λx h=>by simp at h),λ_ h=>h⟩
 | (y,k) :: r,acc,h1,h2=>by
  by_cases f:k=.free
  .subst f;obtain⟨c,q⟩:=h1 y (aai ..);have g:∀x b,((y,c) :: acc).lookup x=some b->env.cells.lookup x=some b:=λx b e=>by
    rw[aaL]at e;split at e
    .rename_i a;have i:x=y:=by simpa using a
     cases e;rw[i];exact q
    .exact h2 x b e
   obtain⟨cl,j,l,o,d⟩:=sR env r ((y,c) :: acc) (λx a=>h1 x (ZY _ a)) g;refine⟨cl,?_,l,λx a=>?_,λx a=>d x ?_⟩
   .rw[List.forIn_cons];simp only[beq_self_eq_true,Z4];unfold cellOf;rw[q];exact j
   .rcases List.mem_cons.mp a with z|z
    .cases z;exact d y (by simp[aaL])
    .exact o x z
   .rw[aaL];split
    .rfl
    .exact a
  .have p:(k==NameKind.free)=false:=by simpa using f
   obtain⟨cl,j,l,o,d⟩:=sR env r acc (λx a=>h1 x (ZY _ a)) h2;refine⟨cl,?_,l,λx a=>?_,d⟩
   .rw[List.forIn_cons];simp only[p,Z9,aaH];exact j
   .rcases List.mem_cons.mp a with z|z
    .cases z;exact absurd rfl f
    .exact o x z
def IM{scope:Scope}{env:Env}(h:∀x,(x,NameKind.free)∈scope.names->∃c,env.cells.lookup x=some c) :
  ∃cl,closureFor scope env=pure cl/\(∀x c,cl.lookup x=some c->env.cells.lookup x=some c)/\∀x,(x,NameKind.free)∈scope.names->∃c,cl.lookup x=some c:=by
 obtain⟨cl,b,d,f,_⟩:=sR env scope.names [] h (λx c e=>by simp at e);refine⟨cl,?_,d,λx g=>Option.isSome_iff_exists.mp (f x g)⟩;unfold closureFor;show(forIn scope.names [] _ >>= λa=>pure a:Sem (List (Str×Addr)))=pure cl;have e:(forIn scope.names [] (λ(x:Str×NameKind) a=>if (x.2==NameKind.free)=true then (do let c <-cellOf env x.1;pure (ForInStep.yield ((x.1,c) :: a)))else pure (ForInStep.yield a)):Sem (List (Str×Addr)))=pure cl:=b;exact Z0 (λt:Sem (List (Str×Addr))=>t >>= λa=>pure a) e
noncomputable def iK(sc scope:Scope):Scope:={ scope with names:=scope.names.map λ(n,k)=>if (k==.free&&sc.kind==.function&&sc.names.lookup n==some .cell)then (n,.cell)else (n,k)}
def sS{env:Env}{sc scope:Scope}(h:env.scope=sc):relabel scope env=iK sc scope:=by
 subst h;rfl
theorem uh{sc:Scope}:∀{names:List (Str×NameKind)}{x:Str},(∀y∈names,y.2≠.cell)->
  ((names.map λ(n,k)=>if (k==NameKind.free&&sc.kind==.function&&sc.names.lookup n==some .cell)then (n,NameKind.cell)else (n,k)).lookup x=some .cell\/
   (names.map λ(n,k)=>if (k==NameKind.free&&sc.kind==.function&&sc.names.lookup n==some .cell)then (n,NameKind.cell)else (n,k)).lookup x=some .free)->(x,NameKind.free)∈names
 |[],_,_,h=>by rcases h with h|h<;>simp at h
 | (n,k) :: r,x,hc,h=>by
  have i:=@uh sc r x λy j=>hc y (ZY _ j);simp only[ZT]at h;have d:∀(a:NameKind),(if (k==NameKind.free&&sc.kind==.function&&sc.names.lookup n==some .cell)then (n,NameKind.cell)else (n,k))=(n,a)->a=.cell\/a=.free->k=.free:=λa e b=>by
   split at e
   .rename_i z;simp only[ZJ,beq_iff_eq]at z;exact z.1.1
   .cases e;rcases b with z|z
    .exact absurd z (hc (n,_) (aai ..))
    .exact z
  generalize hg:(if (k==NameKind.free&&sc.kind==.function&&sc.names.lookup n==some .cell)then (n,NameKind.cell)else (n,k))=p at h d
  have f:p.1=n:=by rw[<-hg];split<;>rfl
  obtain⟨g,l⟩:=p;simp only at f;subst f;simp only[aaL]at h;cases hx:(x==g)with
  |true=>
   have c:x=g:=by simpa using hx
   rw[hx]at h;have:=d l rfl (by rcases h with h|h<;>simp at h<;>simp[h]);subst this;rw[c];exact aai ..
  |false=>
   rw[hx]at h;exact ZY _ (i h)
section
variable{prog:Program}{w:World}{A:Around}{R':Result->Shared->Prop}{s:Shared}
abbrev fC:Value->Shared->Prop:=λ_ _=>False
noncomputable def yz(ifs:List Expr)(env:Env):Sem Bool:=forIn ifs true λc r=>if r=true then do let ok <-isTrue c env (eval c env);pure (ForInStep.yield ok)else pure (ForInStep.yield r)
def vM{elt target iter:Expr}{ifs:List Expr}{scope:Scope}{pos:Pos}{it acc:Value}{env:Env}(I:Nat->Shared->Prop)
  (turn:∀n s,I n s->wpAny (model prog w) A (pyNext it) (λr s₁=>match r with
   |none=>R' (.ok .next) s₁
   |some v=>wpAny (model prog w) A (letOwnedTupleGo target it v) (λ_ s₂=>wpAny (model prog w) A (assign target env v) (λ_ s₃=>
     wpAny (model prog w) A (yz ifs env) (λok s₄=>
      if ok=true then wpAny (model prog w) A (eval elt env) (λx s₅=>
       wpAny (model prog w) A (call (.builtin "list.append") [acc,x]) (λ_ s₆=>∃m,m<n/\I m s₆) fC s₅) fC s₄
      else ∃m,m<n/\I m s₄) fC s₃) fC s₂) fC s₁) fC s)
  (n:Nat) (h:I n s):codeAny (model prog w) A (.compLoop (.ListComp elt [⟨target,iter,ifs,0⟩] scope pos) 0 it acc env) R' s:=by
 refine codeAny_loop rfl I (λn s d=>?_) n h;show wpAny _ A ((compTurn (.ListComp elt [⟨target,iter,ifs,0⟩] scope pos) 0 it acc env).onRaise (λx=>do noteFrame x env;theTreesLotGoes x)) _ _ s;refine wpAny_noted ?_;rw[compTurn_list];refine gv (wpAny_standAt (gv (aaW (turn n s d) (λr s₁ b=>?_) λ_ _ a=>a.elim)));cases r with
 |none=>exact ZR b
 |some v=>
  refine gv (aaW b (λ_ s₂ e=>?_) λ_ _ a=>a.elim);refine gv (aaW e (λ_ s₃ f=>gv (aaW f (λok s₄ c=>?_) λ_ _ a=>a.elim)) λ_ _ a=>a.elim);cases ok with
  |false=>exact ZR ⟨rfl,c⟩
  |true=>
   exact gv (gv (aaW c (λx s₅ g=>gv (aaW g (λ_ s₆ i=>ZR (ZR ⟨rfl,i⟩)) λ_ _ a=>a.elim)) λ_ _ a=>a.elim))
end
inductive RW(K:PySem.W.Frag)(m:List Nat)(P:aQ)(e:Eo)(s:L2.St)(H:Hp)(Q:Bool->Hp->Prop):Prop
 |mk (r:List Addr) (fr:Fr) (h:Hh) (k:Bool) (h':Hh) (c0:SR K m H r fr s) (c1:HR K H r h) (c2:Ev.iI P e fr h=.ok k h') (c3:∀H' r',HR K H' r' h'->Fm K r r' H H'->Q k H'):RW K m P e s H Q
def JC(G:Tb)(n:Nat)(sc:Scope)(N:List Str)(df:Bool)(m:List Nat)(e:Eo)(ifs:List Expr):Prop:=∀X,Good G n sc N df X->∀(pins:List (Addr×Obj)) (s:Shared) (σ:L2.St) (H:Hp) (Q:Bool->Hp->Prop),Inv X pins σ H s->
 RW X.K m (Ev.run G.F G.w n) e σ H Q->wpAny (model X.prog X.w) X.A (yz ifs X.env) (TP X pins σ Q) X.xe s
section
variable{G:Tb}{n:Nat}{sc:Scope}{N:List Str}{df:Bool}{m:List Nat}{a:E}{xa:Expr}
def QK:JC G n sc N df m .no []:=λX g pins s σ H Q I q=>by
 obtain⟨r,c,h,k,d,f,b,e,q⟩:=q;simp only[Ev.iI]at e;cases e;exact ZR ⟨H,I,q H r b .refl⟩
def LY(hc:JT G n sc N df m a xa):JC G n sc N df m (.yes a) [xa]:=λX g pins s σ H Q I q=>by
 obtain⟨r,b,h,k,c,d,f,e,q⟩:=q;simp only[Ev.iI]at e;exact wpAny_tests_one (hc X g pins s σ H Q I ⟨r,b,h,k,c,d,f,e,q⟩)
end
noncomputable def qX(X:Cx)(N':List Str)(scope:Scope)(cl:List (Str×Addr))(C:Addr)(s3:Shared)(H3:Hp)(fp:List Addr):Cx:=
 { X with N:=N',s₀:=s3,H₀:=H3,env:=compEnvC scope cl C X.env,outer:=X.stack,stack:=X.stack,ex:=fp,fn:=λ_=>false,pn:=[],xe:=λ_ _=>False }
def namesOk(sc:Scope)(N:List Str)(m:List Nat)(scope:Scope)(t:T)(N':List Str)(m':List Nat):Prop:=m'.length=N'.length/\
 ∀(j:Nat) x i,N'[j]?=some x->m'[j]?=some i->i∈Ev.slots t\/((x,NameKind.free)∈scope.names/\∃jo:Nat,N[jo]?=some x/\m[jo]?=some i)
noncomputable def vN(sc:Scope)(N:List Str)(m:List Nat)(scope:Scope)(t:T)(N':List Str)(m':List Nat):Bool:=m'.length==N'.length&&
 (List.range N'.length).all λj=>match N'[j]?,m'[j]? with
  |some x,some i=>(Ev.slots t).contains i || (scope.names.contains (x,NameKind.free)&&(List.range N.length).any λa=>N[a]?==some x&&m[a]?==some i)
  |_,_=>true
def namesOk.of{sc:Scope}{N:List Str}{m:List Nat}{scope:Scope}{t:T}{N':List Str}{m':List Nat}(h:vN sc N m scope t N' m'=true):namesOk sc N m scope t N' m':=by
 unfold vN at h;rw[ZJ]at h;refine⟨by simpa using h.1,λj x i a c=>?_⟩;have d:j<N'.length:=(List.getElem?_eq_some_iff.mp a).1;have q:=List.all_eq_true.mp h.2 j (List.mem_range.mpr d);rw[a,c]at q;simp only[aau,ZJ,List.any_eq_true]at q;rcases q with q|⟨e,f,_,b⟩
 .exact .inl (by simpa using q)
 .exact .inr ⟨by simpa using e,f,by simpa using b.1,by simpa using b.2⟩
def xY{t:T}{d:D}{fr ao:Fr}(e:Ev.cI t d fr=some ao){i:Nat}(hi:i∉Ev.slots t):ao[i]?=fr[i]?:=by
 have go:∀(l:List Nat) (ds:List D) (fr ao:Fr),Ev.cV l ds fr=some ao->i∉l->ao[i]?=fr[i]?:=by
  intro l;induction l with
  |nil=>
   intro ds fr ao e _;cases ds with
   |nil=>cases e;rfl
   |cons _ _=>cases e
  |cons j l b=>
   intro ds fr ao e a;cases ds with
   |nil=>cases e
   |cons d ds=>
    rw[b ds _ _ e λz=>a (ZY _ z),Kc];intro z;exact a (by rw[z];exact aai ..)
 cases t with
 |one j=>
  cases e;rw[Kc];intro z;exact hi (by simp[Ev.slots,z])
 |many l=>
  cases d with
  |tup ds=>exact go l ds fr ao e hi
  |_=>cases e
def SR.unbind{K:PySem.W.Frag}{m:List Nat}{H:Hp}{r:List Addr}{t:T}{d:D}{fr ao:Fr}{s:L2.St}(sr:SR K m H r ao s)(e:Ev.cI t d fr=some ao)(hu:Ev.undef t fr=true):SR K m H r fr s:=by
 refine⟨sr.len,λj i b c a=>sr.sl j i b c ?_⟩;rw[xY e]
 .exact a
 .intro f;have q:=List.all_eq_true.mp hu i f;rw[a]at q;cases q
structure oF(sc scope:Scope):Prop where
 kind:scope.kind=.function
 B5:∀y∈scope.names,y.2≠.cell
 free:∀x,(x,NameKind.free)∈scope.names->(sc.names.lookup x=some .cell\/sc.names.lookup x=some .free)/\scope.names.lookup x=some .free
 loc:∀y∈scope.names,y.2=.local->scope.names.lookup y.1=some .local
noncomputable def LZ(sc scope:Scope):Bool:=scope.kind==.function&&scope.names.all λy=>y.2 != .cell&&(y.2 != .free || ((sc.names.lookup y.1==some .cell ||sc.names.lookup y.1==some .free)&&scope.names.lookup y.1==some .free))&&(y.2 != .local ||scope.names.lookup y.1==some .local)
def oF.of{sc scope:Scope}(h:LZ sc scope=true):oF sc scope:=by
 unfold LZ at h;rw[ZJ]at h;have q:∀y∈scope.names,y.2≠.cell/\(y.2=.free->(sc.names.lookup y.1=some .cell\/sc.names.lookup y.1=some .free)/\scope.names.lookup y.1=some .free)/\(y.2=.local->scope.names.lookup y.1=some .local):=λy a=>by
  have z:=List.all_eq_true.mp h.2 y a;simp only[ZJ,aau,bne_iff_ne,beq_iff_eq,ne_eq]at z;refine⟨z.1.1,λe=>?_,λe=>?_⟩
  .rcases z.1.2 with w|w
   .exact absurd e w
   .exact w
  .rcases z.2 with w|w
   .exact absurd e w
   .exact w
 exact⟨by simpa using h.1,λy a=>(q y a).1,λx b=>(q _ b).2.1 rfl,λy a=>(q y a).2.2⟩
theorem um{sc:Scope}:∀{names:List (Str×NameKind)}{x:Str},names.lookup x=some .free->
  ((names.map λ(n,k)=>if (k==NameKind.free&&sc.kind==.function&&sc.names.lookup n==some .cell)then (n,NameKind.cell)else (n,k)).lookup x=some .cell\/
   (names.map λ(n,k)=>if (k==NameKind.free&&sc.kind==.function&&sc.names.lookup n==some .cell)then (n,NameKind.cell)else (n,k)).lookup x=some .free)
 |[],_,h=>by simp at h
 | (n,k) :: r,x,h=>by
  have a:=@um sc r x;simp only[ZT];simp only[aaL]at h;by_cases b:(k==NameKind.free&&sc.kind==.function&&sc.names.lookup n==some .cell)=true
  .rw[xC b];simp only[aaL];cases hx:(x==n)with
   |true=>exact .inl rfl
   |false=>rw[hx]at h;exact a h
  .rw[ZS b];simp only[aaL];cases hx:(x==n)with
   |true=>rw[hx]at h;exact .inr h
   |false=>rw[hx]at h;exact a h
section
variable{G:Tb}{n:Nat}{sc scope:Scope}{N N':List Str}{df:Bool}{m m':List Nat}{t:T}{X:Cx}
def Good.comp(g:Good G n sc N df X){cl:List (Str×Addr)}{C:Addr}{s3:Shared}{H3:Hp}{fp:List Addr}:Good G n (iK sc scope) N' false (qX X N' scope cl C s3 H3 fp):=
 ⟨rfl,sS g.sc,g.calm,(λh=>by cases h),g.room,rfl,g.fn,g.bl,g.cs,g.dk
 ,g.mt,g.oc
 ⟩
def IP{pins:List (Addr×Obj)}{σ:L2.St}{H3:Hp}{s3:Shared}(g:Good G n sc N df X)(I:Inv X pins σ H3 s3)(hs:oF sc scope){cl:List (Str×Addr)}(jK:∀x c,cl.lookup x=some c->X.env.cells.lookup x=some c)
  (oG:∀x,(x,NameKind.free)∈scope.names->∃c,cl.lookup x=some c) {fp:List Addr} (hfp:∀b∈fp,iF X pins H3 b) (hfl:∀b∈fp,b<s3.heap.objs.size):(qX X N' scope cl s3.heap.objs.size s3 H3 fp).Ok where
 mod:=I.ok.mod
 kind:=hs.kind
 glob:=I.ok.glob
 blt:=I.ok.blt
 above:=ZO _
 inj:=λx y c d f=>I.ok.inj x y c (jK x c d) (jK y c f)
 has:=λx h=>by
  have i:(iK sc scope).names.lookup x=some .cell\/(iK sc scope).names.lookup x=some .free:=by
   rw[<-sS (scope:=scope) g.sc];exact h
  exact oG x (uh hs.B5 i)
 yf:=λx c h=>by cases h
 hd:=I.ok.hd
 frames:=I.ok.frames
 stk:=.inl rfl
 FF:=λb a=>⟨aad (hfl b a),λx c e=>(hfp b a).2.2.2.2.1 x c (jK x c e)⟩
 bs:=I.bs
 qK:=Z2 I.ok.qK I.sz
 sE:=λb o e a=>by
  rcases(hfp b a).2.2.2.1 with z|z
  .exact I.ok.sE b o e z
  .have:=ZW (I.ok.bs b o e).1;exact absurd (ZN this z) (aah _)
 sF:=λb a z=>by
  rcases List.mem_cons.mp (I.ve b z)with q|q
  .exact(hfp b a).2.1 q
  .exact(hfp b a).2.2.1 q
 jc:=I.stack
 tV:=I.yg
open Classical in
noncomputable def sig(scope:Scope)(N N':List Str)(m':List Nat)(K:PySem.W.Frag)(H:Hp)(r:List Addr)(fr:Fr)(σ:L2.St):L2.St:=
 (List.range N'.length).map λj=>if h:∃v,∃x i,N'[j]?=some x/\m'[j]?=some i/\(x,NameKind.free)∈scope.names/\(∃jo:Nat,N[jo]?=some x/\σ[jo]?=some (some v))/\∀d,fr[i]?=some (some d)->RV K H r d v then some h.choose else none
def L0{K:PySem.W.Frag}{H:Hp}{r:List Addr}{fr:Fr}{σ:L2.St}{j:Nat}{v:V}(h:(sig scope N N' m' K H r fr σ)[j]?=some (some v)) :
  ∃x i,N'[j]?=some x/\m'[j]?=some i/\(x,NameKind.free)∈scope.names/\(∃jo:Nat,N[jo]?=some x/\σ[jo]?=some (some v))/\∀d,fr[i]?=some (some d)->RV K H r d v:=by
 unfold sig at h;rw[Z7]at h;cases e:(List.range N'.length)[j]? with
 |none=>rw[e]at h;cases h
 |some b=>
  have:=getElem?_range' e;subst this;rw[e]at h;simp only[Option.map_some,abt]at h;split at h
  .rename_i a;cases h;exact a.choose_spec
  .cases h
def L1{K:PySem.W.Frag}{H:Hp}{r:List Addr}{fr:Fr}{σ:L2.St}(sr:SR K m H r fr σ)(hn:namesOk sc N m scope t N' m')(hu:Ev.undef t fr=true):SR K m' H r fr (sig scope N N' m' K H r fr σ):=by
 refine⟨by unfold sig;simp[hn.1],λj i d b c=>?_⟩;have e:j<N'.length:=by rw[<-hn.1];exact(List.getElem?_eq_some_iff.mp b).1
 have f:N'[j]?=some N'[j]:=Rx e;rcases hn.2 j _ i f b with k|⟨l,a,o,p⟩
 .exfalso;have q:=List.all_eq_true.mp hu i k;rw[c]at q;cases q
 .obtain⟨v,y,z⟩:=sr.sl a i d p c;have ex:∃v,∃x i,N'[j]?=some x/\m'[j]?=some i/\(x,NameKind.free)∈scope.names/\(∃a:Nat,N[a]?=some x/\σ[a]?=some (some v))/\∀d,fr[i]?=some (some d)->RV K H r d v:=
   ⟨v,N'[j],i,f,b,l,⟨a,o,y⟩,λB g=>by rw[c]at g;cases g;exact z⟩
  refine⟨ex.choose,?_,?_⟩
  .unfold sig;rw[Z7,aaq e];simp only[Option.map_some];rw[dif_pos ex]
  .obtain⟨C,F,I,h,J,L,A⟩:=ex.choose_spec;rw[b]at h;cases h;exact A d c
def Ed{pins:List (Addr×Obj)}{σ:L2.St}{H3:Hp}{s3:Shared}(g:Good G n sc N df X)(I:Inv X pins σ H3 s3)(hs:oF sc scope){cl:List (Str×Addr)}(jK:∀x c,cl.lookup x=some c->X.env.cells.lookup x=some c)
  (oG:∀x,(x,NameKind.free)∈scope.names->∃c,cl.lookup x=some c) {fp:List Addr} (hfp:∀b∈fp,iF X pins H3 b) (hfl:∀b∈fp,b<s3.heap.objs.size) {h1:Heap} {tk:Nat} {mm:Str->Option Value}
  (hns:h1.Ns s3.heap.objs.size mm) (hk:∀b o,s3.heap.get? b=some o->h1.get? b=some o) {r:List Addr} {fr:Fr} :
  Inv (qX X N' scope cl s3.heap.objs.size s3 H3 fp) [] (sig scope N N' m' X.K H3 r fr σ) H3 { s3 with heap:=h1,toks:=tk }:=by
 refine⟨IP g I hs jK oG hfp hfl,rfl,I.bare,Un.kept hk,⟨mm,hns,λj x v A B Q=>?_⟩,λx c e=>?_,I.hok.fresh (ZO _),λx c e=>I.jw x c (jK x c e),(λp C=>by simp[qX]at C),I.hok.kept hk,(by unfold sig;simp[qX])⟩
 .obtain⟨W,i,q,Y,y,⟨F,H,J⟩,_⟩:=L0 B;have VP:N'[j]?=some x:=A;rw[VP]at q;cases q;obtain⟨f1,f2⟩:=hs.free x y;obtain⟨Z,XU,VQ⟩:=I.loc;obtain⟨u,L,M⟩:=VQ F x v (by rw[g.nm];exact H) J (by rw[g.sc];rcases f1 with z|z<;>simp[Bj,z]);refine⟨u,L,?_⟩;have f:X.env.kindOf x=some .cell\/X.env.kindOf x=some .free:=by unfold Env.kindOf;rw[g.sc];exact f1
  rcases M with ⟨z,_⟩|⟨_,c,P,a⟩
  .rcases f with w|w <;> (rw[z]at w;cases w)
  .obtain⟨h,d⟩:=oG x y;have:h=c:=by
    have:=jK x h d;rw[P]at this;cases this;rfl
   subst this;refine .inr ⟨?_,h,d,?_⟩
   .show(relabel scope X.env).names.lookup x=some .cell\/(relabel scope X.env).names.lookup x=some .free;rw[sS (scope:=scope) g.sc];exact um f2
   .obtain⟨o,k,l⟩:=a;exact⟨o,hk _ _ k,l⟩
 .obtain⟨v,o,k,l⟩:=I.cell x c (jK x c e);exact⟨v,o,hk _ _ k,l⟩
end
section
variable{G:Tb}{n:Nat}{sc scope:Scope}{N N':List Str}{df:Bool}{m m':List Nat}{elt:E}{t:T}{it:Ev.It}{cond:Eo}{xe xi tg:Expr}{ifs:List Expr}{pos:Pos}{X:Cx}
noncomputable def Am(P:aQ)(elt:E)(t:T)(cond:Eo)(fr:Fr):D->Hh->R (Option D):=λd c=>match Ev.cI t d fr with
 |none=>.bad
 |some a=>(Ev.iI P cond a c).bind λk b=>if k then (Ev.ev P elt a b).bind λx e=>.ok (some x) e else .ok none b
def sU(P:aQ)(elt:E)(t:T)(it:Ev.It)(cond:Eo)(fr:Fr)(h:Hh):Ev.ev P (.comp elt t it cond) fr h=(Ev.dj P it fr h).bind λs h1=>if Ev.undef t fr then
  (Ev.cX (Am P elt t cond fr) s.2 s.1 h1).bind λds h2=>Ev.alloc ds h2 else .bad:=by
 simp only[Ev.ev];rfl
inductive CI(Y:Cx)(m':List Nat)(f:D->Hh->R (Option D))(fr:Fr)(src:Src)(fp:List Addr)(tn:Nat->Heap->Prop)(r2:List Addr)(H2:Hp)(Dd:Addr)(ds:List D)(h2:Hh)(k:Nat)(s:Shared):Prop
 |mk (i:Nat) (qb:L2.St) (Hc:Hp) (rc:List Addr) (hc:Hh) (dn:List D) (vs:List V) (rest:List D) (c0:Inv Y [] qb Hc s) (c1:tn i s.heap) (c2:∀b∈fp,Hc b=none) (c3:k=src.1.length - i) (c4:i<=src.1.length) (c5:SR Y.K m' Hc rc fr qb) (c6:HR Y.K Hc rc hc) (c7:Fm Y.K r2 rc H2 Hc) (c8:Hc Dd=some (.lst vs)) (c9:Dd∉rc) (d0:aG Y.K Hc rc dn vs) (d1:Ev.cX f src.2 (src.1.drop i) hc=.ok rest h2) (d2:dn++rest=ds):CI Y m' f fr src fp tn r2 H2 Dd ds h2 k s
section
variable{Y:Cx}{sc':Scope}{J:L2.It}{fp:List Addr}{ita:Addr}{tn:Nat->Heap->Prop}{fr:Fr}{src:Src}{r2:List Addr}{H2:Hp}{Dd:Addr}{ds:List D}{h2:Hh}
def An(gC:Good G n sc' N' false Y){α:Type}{tt:Sem α}{Q:α->Shared->Prop}{s:Shared}(hw:wpAny (model Y.prog Y.w) Y.A tt Q Y.xe s):wpAny (model Y.prog Y.w) Y.A tt Q fC s:=by rw[gC.xe]at hw;exact hw
def yC{i:Nat}{nO:L2.St}{H9:Hp}{r9:List Addr}{h9:Hh}{dn:List D}{vs:List V}{rest':List D}{s9:Shared}{p:List (Addr×Obj)}{f:D->Hh->R (Option D)}(hlt:i<src.1.length)(I9:Inv Y ([]++p) nO H9 s9)(bk:tn (i+1) s9.heap/\∀b∈fp,H9 b=none)(q:SR Y.K m' H9 r9 fr nO)(uo:HR Y.K H9 r9 h9)(fm:Fm Y.K r2 r9 H2 H9)(Ao:H9 Dd=some (.lst vs))(Aq:Dd∉r9)(rv:aG Y.K H9 r9 dn vs)(e7:Ev.cX f src.2 (src.1.drop (i+1)) h9=.ok rest' h2)(ed:dn++rest'=ds) :
  ∃k,k<src.1.length - i/\CI Y m' f fr src fp tn r2 H2 Dd ds h2 k s9:=
 ⟨src.1.length - (i+1),acz hlt (aba i),i+1,nO,H9,r9,h9,dn,vs,rest',I9.m7,bk.1,bk.2,rfl,hlt,q,uo,fm,Ao,Aq,rv,e7,ed⟩
def L3{i:Nat}{nO:L2.St}{H9:Hp}{r9:List Addr}{h9:Hh}{dn:List D}{vs:List V}{xd:D}{v10:V}{Ge:Value}{rest':List D}{s9:Shared}{p:List (Addr×Obj)}{f:D->Hh->R (Option D)}(hlt:i<src.1.length)(mJ:H2 Dd=none)(hsz:ds.length<=sizeLine)(gC:Good G n sc' N' false Y)(I9:Inv Y ([]++p) nO H9 s9)(Ef:RelV v10 Ge)(bk:∀{σ':L2.St}{H':Hp}{s':Shared},Inv Y ([]++p) σ' H' s'->tn (i+1) s'.heap/\∀b∈fp,H' b=none)(q:SR Y.K m' H9 r9 fr nO)(uo:HR Y.K H9 r9 h9)(fm:Fm Y.K r2 r9 H2 H9)(qc:H9 Dd=some (.lst vs))(vO:Dd∉r9)(rv:aG Y.K H9 r9 dn vs)(Eg:RV Y.K H9 r9 xd v10)(e7:Ev.cX f src.2 (src.1.drop (i+1)) h9=.ok rest' h2)(ed:dn++xd :: rest'=ds) :
  wpAny (model Y.prog Y.w) Y.A (call (.builtin "list.append") [.ref Dd,Ge]) (λ_ Gf=>∃k,k<src.1.length - i/\CI Y m' f fr src fp tn r2 H2 Dd ds h2 k Gf) fC s9:=by
 have a:vs.length<sizeLine:=by
  have o:=rv.length;have h2:=Z0 List.length ed;simp at h2;omega
 refine bH (An gC (lD _ s9 nO H9 (.ref Dd) [v10] (.ref Dd) [Ge] (λ_ RX=>RX=upd H9 Dd (.lst (vs++[v10]))) I9 rfl (.cons Ef .nil) ⟨Dd,vs,v10,rfl,rfl,qc,a,rfl⟩)) λ_ Gf ⟨_,RX,RY,_,UH⟩=>?_;subst UH;refine yC (dn:=dn++[xd]) (vs:=vs++[v10]) hlt RY (bk RY) ?_ (uo.other qc vO) (fm.other mJ qc) bz vO ?_ e7 ?_
 .exact⟨q.len,λj c d e g=>by
   obtain⟨w,h,l⟩:=q.sl j c d e g;exact⟨w,h,l.grow (λ_ _ z=>z) (gA qc)⟩⟩
 .exact(rv.append (.cons Eg .nil)).grow (λ_ _ z=>z) (gA qc)
 .rw[<-ed];simp
def B6(gC:Good G n sc' N' false Y)(hg:JG G n sc' N' false m' t tg)(hc:JC G n sc' N' false m' cond ifs)(he:JE G n sc' N' false m' elt xe)(Tn:Turn Y.prog Y.w Y.K tg J fp ita tn)(m8:∀{Hc:Hp},(∀b∈fp,Hc b=none)->∀b∈fp,iF Y [] Hc b)
  (hu:Ev.undef t fr=true) (hJ:qu Y.K r2 H2 src J) (mJ:H2 Dd=none) (hsz:ds.length<=sizeLine) {R':Result->Shared->Prop}
  (UI:∀s6 qb Hc rc vs,Inv Y [] qb Hc s6->HR Y.K Hc rc h2->Fm Y.K r2 rc H2 Hc->Hc Dd=some (.lst vs)->Dd∉rc->aG Y.K Hc rc ds vs->R' (.ok .next) s6) {k:Nat} {s:Shared}
  (h:CI Y m' (Am (Ev.run G.F G.w n) elt t cond fr) fr src fp tn r2 H2 Dd ds h2 k s):codeAny (model Y.prog Y.w) Y.A (.compLoop (.ListComp xe [⟨tg,xi,ifs,0⟩] scope pos) 0 (.ref ita) (.ref Dd) Y.env) R' s:=by
 refine vM (CI Y m' (Am (Ev.run G.F G.w n) elt t cond fr) fr src fp tn r2 H2 Dd ds h2) ?_ k h;rintro k s5 ⟨i,qb,Hc,rc,hc',dn,vs,rest,I5,yk,pW,rfl,hle,B3,ug,vP,qc,vO,B7,a,Gg⟩;rcases Nat.lt_or_ge i src.1.length with d|L
 .rw[aaE d]at a;simp only[Ev.cX]at a;split at a
  .rename_i g;obtain⟨M,_⟩:=hJ i Hc rc hc' ug vP g;obtain⟨g1,g2⟩:=M src.1[i] (Rx d);obtain⟨o,h6,c,a⟩:=Ev.ah a;obtain⟨P,h7,e7,a⟩:=Ev.ah a;cases a;refine bH (Tn.item Y rfl rfl rfl gC.calm i [] s5 qb Hc fC I5 (m8 pW) yk g1) λrr s6 ⟨u,VR,h8⟩=>?_;subst VR;refine bH h8 λ_ s7 ⟨x,H7,I7,rx,y7,L4,VS⟩=>?_;obtain⟨y,v7,RZ,l⟩:=g2 x H7 y7;obtain⟨UJ,UK⟩:=l.iH qc vO;unfold Am at c;split at c
   .cases c
   .rename_i z Q;obtain⟨kk,W,e9,c⟩:=Ev.ah c;have VT:=I7.pinned (m8 VS) (Tn.obj _ _ L4);refine bH (An gC (hg _ gC _ s7 qb H7 x u (λB H8=>H8=H7/\SR Y.K m' H7 y z B) VT rx ⟨y,fr,hc',_,z,B3.mono l,RZ,v7,Q,λC q=>⟨rfl,q⟩⟩)) λ_ s8 ⟨B,H8,I8,VU,Gh⟩=>?_;subst VU;refine bH (An gC (hc _ gC _ s8 B _ (λb H9=>b=kk/\∃j,HR Y.K H9 j W/\Fm Y.K y j _ H9) I8 ⟨y,z,hc',kk,W,Gh,RZ,e9,λH9 j H f9=>⟨rfl,j,H,f9⟩⟩)) λbb s9 ⟨H9,I9,Lm,j,H,f⟩=>?_;subst Lm;obtain⟨Aq,Ao⟩:=f.iH UK UJ;have back:∀{σ':L2.St} {H':Hp} {C:Shared},Inv Y ([]++nV fp s7.heap) σ' H' C->tn (i+1) C.heap/\∀b∈fp,H' b=none:=λ{σ' H' C} I'=>
     ⟨Tn.keep _ _ _ L4 λb I o e=>(I'.pin (b,o) (aab _ (aab _ (jQ I e)))).1,λb I=>
      let ⟨o,e,_⟩:=Tn.obj _ _ L4 b I
      (I'.pin (b,o) (aab _ (aab _ (jQ I e)))).2.1⟩
    cases bb with
    |false=>
     simp only[Z9,aaH]at c ⊢;cases c;exact yC d I9 (back I9) ((Gh.mono f).unbind Q hu) H ((vP.trans l).trans f) Ao Aq ((B7.mono l).mono f) e7 Gg
    |true=>
     simp only[Z4]at c ⊢;obtain⟨xd,XW,VV,c⟩:=Ev.ah c;cases c;refine bH (An gC (he _ gC _ s9 B H9 (λv B8=>∃p,RV Y.K B8 p xd v/\HR Y.K B8 p _/\Fm Y.K j p H9 B8) I9 ⟨j,z,W,xd,_,Gh.mono f,H,VV,λv B8 p r Eh B9=>⟨p,r,Eh,B9⟩⟩)) λGe R0 ⟨r,B8,VW,Ef,p,Eg,Eh,Ar⟩=>?_;obtain⟨QL,QM⟩:=Ar.iH Ao Aq;exact L3 d mJ hsz gC VW Ef back (((Gh.mono f).mono Ar).unbind Q hu) Eh (((vP.trans l).trans f).trans Ar) QM QL (((B7.mono l).mono f).mono Ar) Eg e7 Gg
  .cases a
 .have Z:i=src.1.length:=Nat.le_antisymm hle L;subst Z;rw[ab0]at a;simp only[Ev.cX]at a;split at a
  .rename_i g;cases a;refine bH (Tn.done Y rfl rfl rfl gC.calm _ [] s5 qb Hc fC I5 (m8 pW) yk ((hJ _ Hc rc _ ug vP g).2 (ZO _))) λrr s6 ⟨hrr,I6⟩=>?_;subst hrr;rw[aaf]at Gg;subst Gg;exact UI s6 qb Hc rc vs I6 ug vP qc vO B7
  .cases a
end
def Ca(g:Good G n sc N df X)(hi:JI G n sc N df m it tg xi)(hg:JG G n (iK sc scope) N' false m' t tg)(hc:JC G n (iK sc scope) N' false m' cond ifs)(he:JE G n (iK sc scope) N' false m' elt xe)
  (hn:namesOk sc N m scope t N' m') (hs:oF sc scope) {cl:List (Str×Addr)} (jK:∀x c,cl.lookup x=some c->X.env.cells.lookup x=some c) (oG:∀x,(x,NameKind.free)∈scope.names->∃c,cl.lookup x=some c)
  {pins:List (Addr×Obj)} {σ:L2.St} {H:Hp} {s:Shared} (I:Inv X pins σ H s) {r:List Addr} {fr:Fr} {h:Hh} {d:D} {h':Hh} (sr:SR X.K m H r fr σ) (hr:HR X.K H r h)
  (e:Ev.ev (Ev.run G.F G.w n) (.comp elt t it cond) fr h=.ok d h') (post:Value->Addr->Result->Shared->Prop)
  (hpost:∀Dd C s' H' r',Inv X pins σ H' s'->(∃mm,s'.heap.Ns C mm)->iF X pins H' C->RV X.K H' r' d (.ref Dd)->HR X.K H' r' h'->Fm X.K r r' H H'->post (.ref Dd) C (.ok .next) s') {E:Value->Shared->Prop} (hE:X.xe=λ_ _=>False) :
  wpAny (model X.prog X.w) X.A (eval xi X.env) (λx s₁=>wpAny (model X.prog X.w) X.A (pyIter x) (λitv s₂=>wpAny (model X.prog X.w) X.A (newList []) (λacc s₃=>
   wpAny (model X.prog X.w) X.A (newFunctionEnv scope X.env.globals cl [] X.env.qual none .none (some X.env)) (λcenv s₄=>
    codeAny (model X.prog X.w) X.A (.compStart (.ListComp xe [⟨tg,xi,ifs,0⟩] scope pos) 0 itv acc { cenv with scope:=relabel scope X.env }) (post acc cenv.locals) s₄) E s₃) E s₂) E s₁) E s:=by
 rw[sU]at e;obtain⟨src,Y,e1,e⟩:=Ev.ah e;split at e
 .rename_i hu;obtain⟨ds,h2,e2,e⟩:=Ev.ah e;have tW:∀{α:Type} {tt:Sem α} {Q:α->Shared->Prop} {s:Shared},wpAny (model X.prog X.w) X.A tt Q X.xe s->wpAny (model X.prog X.w) X.A tt Q E s:=λ{α tt Q s} hw=>aaW hw (λ_ _ q=>q) λ_ _ q=>by rw[hE]at q;exact q.elim
  refine bH (tW (hi X g pins s σ H (λJ H2=>∃j,HR X.K H2 j Y/\Fm X.K r j H H2/\qu X.K j H2 src J) I ⟨r,fr,h,src,Y,sr,hr,e1,λJ H2 j i f2 hJ=>⟨j,i,f2,hJ⟩⟩)) λv s1 q1=>?_;refine bH (tW q1) λitv s2 q2=>?_;obtain⟨ita,l,tn,J,H2,rfl,I2,Tn,P,f2,j,i,Gi,hJ⟩:=q2;refine aax ?_;generalize Gj:s2.heap.objs.size=Dd
  have B:H2 Dd=none:=by rw[<-Gj];exact I2.fresh
  have I3:Inv X pins σ (upd H2 Dd (.lst [])) { s2 with heap:=s2.heap.push { cls:=.type "list",data:=.seq ([]:List Value).toArray }}:=by
   have:=I2.DX (ys:=[]) (its:=[]) (t':=s2.toks) .nil (aaz _);rw[Gj]at this;exact this
  have L5:∀b∈l,b<s2.heap.objs.size:=λb f=>by
   obtain⟨o,e,_⟩:=Tn.obj 0 _ P b f;exact ZW e
  generalize L6:({ s2 with heap:=s2.heap.push { cls:=.type "list",data:=.seq ([]:List Value).toArray }}:Shared)=s3 at I3
  have UL:s3.heap.objs.size=s2.heap.objs.size+1:=by rw[<-L6];exact aci ..
  have k3:∀b o,s2.heap.get? b=some o->s3.heap.get? b=some o:=λb o e=>by rw[<-L6];exact ZK _ e
  have L7:∀b∈l,b<s3.heap.objs.size:=λb f=>ZN (L5 b f) (by rw[UL];exact acH _);have Z:∀b∈l,iF X pins (upd H2 Dd (.lst [])) b:=λb f=>⟨by rw[aC (λz=>absurd (L5 b f) (by rw[z,Gj];exact aah _))];exact(f2 b f).1,(f2 b f).2⟩
  refine wpAny_newFunctionEnv (hs.B5) (λy hy=>by simp at hy) (λL8 UM UN=>?_) hs.kind;have k4:∀b o,s3.heap.get? b=some o->L8.get? b=some o:=λb o e=>UN.extBut b o (aad (ZW e)) (ZK _ e);have gC:Good G n (iK sc scope) N' false (qX X N' scope cl s3.heap.objs.size s3 (upd H2 Dd (.lst [])) l):=g.comp;have I4:Inv (qX X N' scope cl s3.heap.objs.size s3 (upd H2 Dd (.lst [])) l) [] (sig scope N N' m' X.K (upd H2 Dd (.lst [])) j fr σ) (upd H2 Dd (.lst [])) { s3 with heap:=L8,toks:=s3.toks+0 }:=
   Ed g I3 hs jK oG Z L7 UM k4
  have yy:SR X.K m' (upd H2 Dd (.lst [])) j fr (sig scope N N' m' X.K (upd H2 Dd (.lst [])) j fr σ):=L1 (((sr.mono Gi).mono (Fm.tup B))) hn hu;have qW:HR X.K (upd H2 Dd (.lst [])) j Y:=i.tup B;have R1:Dd∉j:=λhm=>by
   obtain⟨k,hk⟩:=acv hm;have W:k<Y.length:=by rw[<-i.len];exact(List.getElem?_eq_some_iff.mp hk).1
   obtain⟨a,e3,e4⟩:=i.ob k _ (Rx W);rw[hk]at e3;cases e3;cases M:Y[k]with
   |lst dd=>rw[M]at e4;obtain⟨us,L,_⟩:=e4;rw[B]at L;cases L
   |bT dd=>
    rw[M]at e4;obtain⟨us,L,_⟩:=e4;rcases L with ⟨ob,L⟩|⟨ob,_,_,L,_⟩
    .rw[B]at L;cases L
    .have:=ZW (I2.kB _ _ L);rw[Gj]at this;exact absurd this (aah _)
   |obj c dd=>
    obtain⟨a,_,_,w⟩:=i.ox.ob k c dd (by rw[Rx W,M]);obtain⟨C,_,w2⟩:=w.ins;have:=w.at_;rw[hk]at this;cases this;rw[B]at w2;cases w2
   |b9 nn kk=>
    obtain⟨a,_,w,w2,_⟩:=i.ox.pv k nn kk (by rw[Rx W,M]);rw[hk]at w;cases w;rw[B]at w2;cases w2
  have VX:H Dd=none:=by
   cases z:H Dd with
   |none=>rfl
   |some o=>
    have hnr:Dd∉r:=λhm=>by
     obtain⟨k,hk⟩:=acv hm;exact R1 (ZM (Gi.pre _ _ hk))
    have:=Gi.keep _ _ z hnr;rw[B]at this;cases this
  have m8:∀{Hc:Hp},(∀b∈l,Hc b=none)->∀b∈l,iF (qX X N' scope cl s3.heap.objs.size s3 (upd H2 Dd (.lst [])) l) [] Hc b:=λ{Hc} hz b f=>by
   refine⟨hz b f,aad (L7 b f),(I4.ok).sF b f,.inl f,λx c e=>((I4.ok).FF b f).2 x c e,λp hp=>?_⟩;simp[qX]at hp
  have hsz:ds.length<=sizeLine:=by
   unfold Ev.alloc at e;split at e
   .rename_i z;rw[<-gQ];exact z
   .cases e
  have fin:codeAny (model X.prog X.w) X.A (.compLoop (.ListComp xe [⟨tg,xi,ifs,0⟩] scope pos) 0 (.ref ita) (.ref Dd) (compEnvC scope cl s3.heap.objs.size X.env)) (post (.ref Dd) s3.heap.objs.size) { s3 with heap:=L8,toks:=s3.toks+0 }:=by
   refine B6 gC hg hc he Tn m8 hu hJ B hsz (λs6 qb Hc rc vs I6 ug vP qc vO B7=>?_) ⟨0,_,_,j,Y,[],[],ds,I4,Tn.keep _ _ _ P λb f o M=>k4 b o (k3 b o M),λb f=>(Z b f).1,rfl,aaz _,yy,qW,Fm.tup B,bz,R1,.nil,by rw[aaA];exact e2,rfl⟩;unfold Ev.alloc at e;split at e
   .cases e;obtain⟨VY,UO,_⟩:=I6.loc;refine hpost Dd _ s6 Hc (rc++[Dd]) ?_ ⟨VY,UO⟩ ?_ ⟨Dd,rfl,?_⟩ (ug.known qc vO B7) ((Gi.trans vP).known ?_)
    .exact I3.Qh (ch:=l) (I6.os) I6.base I6.hok I6.bare λb f=>⟨(Z b f).2.2.2.1,(Z b f).2.1,(Z b f).2.2.2.2.1,(Z b f).2.2.2.2.2⟩
    .exact I3.zS (ZO _) I6.free
    .rw[<-ug.len];simp
    .exact VX
   .cases e
  subst L6;exact codeAny_compStart_list fin (Tn.self _ 0 _ _ _ (Tn.keep _ _ _ P λb f o M=>k4 b o (k3 b o M)) fin)
 .cases e
end
section
variable{G:Tb}{n:Nat}{sc scope:Scope}{N N':List Str}{df:Bool}{m m':List Nat}{elt:E}{t:T}{it:Ev.It}{cond:Eo}{xe xi tg:Expr}{ifs:List Expr}{pos:Pos}
theorem Good.cells{X:Cx}{pins:List (Addr×Obj)}{σ:L2.St}{H:Hp}{s:Shared}(g:Good G n sc N df X)(I:Inv X pins σ H s)(hs:oF sc scope) :
  ∃cl,closureFor scope X.env=pure cl/\(∀x c,cl.lookup x=some c->X.env.cells.lookup x=some c)/\∀x,(x,NameKind.free)∈scope.names->∃c,cl.lookup x=some c:=
 IM λx a=>I.ok.has x (by unfold Env.kindOf;rw[g.sc];exact(hs.free x a).1)
def Ma{X:Cx}{pins:List (Addr×Obj)}{σ:L2.St}{H:Hp}{s:Shared}(I:Inv X pins σ H s){C:Addr}(fp:iF X pins H C){h':Heap}(hs:Heap.SameBut C s.heap h'):Inv X pins σ H { s with heap:=h' }:=
 I.turned (t':=s.toks) (λb o a e=>hs.extBut b o a e) fp.1 fp.2.1 fp.2.2.2.1 fp.2.2.2.2.1 fp.2.2.2.2.2
def IQ(hi:JI G n sc N df m it tg xi)(hg:JG G n (iK sc scope) N' false m' t tg)(hc:JC G n (iK sc scope) N' false m' cond ifs)(he:JE G n (iK sc scope) N' false m' elt xe)
  (hn:namesOk sc N m scope t N' m') (hs:oF sc scope) (hf:∀(env:Env) x,foldedSetIterable xi env x=pure x:=by intro _ _;rfl):JE G n sc N df m (.comp elt t it cond) (.ListComp xe [⟨tg,xi,ifs,0⟩] scope pos):=λX g pins s σ H Q I q=>by
 obtain⟨r,B,h,d,F,i,j,e,q⟩:=q;obtain⟨J,a,k,l⟩:=g.cells I hs;rw[eval_ListComp];refine wpAny_comprehension_free (use:=none) (Q:=EP X pins σ Q) rfl (hf _) a hs.kind hs.loc ?_;refine Ca g hi hg hc he hn hs k l I i j e (λb C=>compPost (model X.prog X.w) X.A X.xe none (EP X pins σ Q) b C) (λDd C K H' o I' c p rv f VZ=>?_) g.xe;obtain⟨y,c⟩:=c;exact⟨y,c,λz V0=>⟨.ref Dd,H',Ma I' p V0,rfl,q _ H' o rv f VZ⟩⟩
end
end Sm
namespace Sm
open PySem PySem.Spec PyProof.Rows L2 PySem.SeqAt
open Ev (D O Hh Fr R aQ E Es Eo T S Ss Fl Src bS bM TY BI ME)
structure vQ(A:Around)(s:Shared)(u w:Value)(k:Bool):Prop where
 eq:EqAt A s u w k
 rc:RcAt A s u w k
 ne:RcNeAt A s u w (!k)
theorem sW{f:D->D->Option Bool}:∀{x y:List D},x.length≠y.length->∀{k},Ev.cG f x y=some k->k=false
 |[],[],h,_,_=>absurd rfl h
 |[],_ :: _,_,_,e=>by cases e;rfl
 |_ :: _,[],_,_,e=>by cases e;rfl
 |a :: x,b :: y,h,k,e=>by
  simp only[Ev.cG,aa1,ZQ]at e;obtain⟨p,_,q,c,d⟩:=e;have:=sW (x:=x) (y:=y) (by simpa using h) c;subst this;cases d;simp
theorem yF{f:D->D->Option Bool}:∀{x y:List D}{k},Ev.cG f x y=some k->x.length=y.length->∃e:Nat->Bool,(∀(j:Nat) a b,x[j]?=some a->y[j]?=some b->f a b=some (e j))/\(List.range x.length).all e=k
 |[],[],_,h,_=>⟨λ_=>true,(λj a b c=>by simp at c),by cases h;simp⟩
 |[],_ :: _,_,_,h=>by simp at h
 |_ :: _,[],_,_,h=>by simp at h
 |a :: x,b :: y,k,h,hl=>by
  simp only[Ev.cG,aa1,ZQ]at h;obtain⟨p,i,q,l,o⟩:=h;cases o;obtain⟨e,c,r⟩:=yF l (by simpa using hl);refine⟨λj=>match j with|0=>p|j+1=>e j,λj z A d g=>?_,?_⟩
  .cases j with
   |zero=>simp at d g;subst d g;exact i
   |succ j=>exact c j z A (by simpa using d) (by simpa using g)
  .rw[ZU,abz,List.all_cons,List.all_map,<-r];rfl
theorem yG{f:D->D->Option Bool}:∀{x y:List D}{k},Ev.cG f x y=some k->∃e:Nat->Bool,∀(j:Nat) a b,x[j]?=some a->y[j]?=some b->f a b=some (e j)
 |[],_,_,_=>⟨λ_=>true,λj a b c=>by simp at c⟩
 |_ :: _,[],_,_=>⟨λ_=>true,λj a b _ c=>by simp at c⟩
 |a :: x,b :: y,k,h=>by
  simp only[Ev.cG,aa1,ZQ]at h;obtain⟨p,i,q,l,z⟩:=h;obtain⟨e,c⟩:=yG l;refine⟨λj=>match j with|0=>p|j+1=>e j,λj o r d g=>?_⟩;cases j with
  |zero=>simp at d g;subst d g;exact i
  |succ j=>exact c j o r (by simpa using d) (by simpa using g)
section
variable{X:Cx}{pins:List (Addr×Obj)}{σ:L2.St}{H:Hp}{s:Shared}{r:List Addr}{h:Hh}
def pq(I:Inv X pins σ H s){a b:Addr}{vs ws:List V}(h1:Af X.K H a vs)(h2:H b=some (.lst ws)):a≠b:=by
 rintro rfl;rcases h1 with ⟨o,h1⟩|⟨o,_,_,h1,_⟩
 .rw[h2]at h1;cases h1
 .have:=(I.bs a o (I.ok.mod.ye a o h1)).2;rw[h2]at this;cases this
def ur{x y:List D}{vs ws:List V}{us zs:List Value}{f:D->D->Option Bool}{A:Around}{k:Bool}(v1:aG X.K H r x vs)(v2:aG X.K H r y ws)(p1:Vals vs us)(p2:Vals ws zs)
  (ih:∀a b va vb u w k,RV X.K H r a va->RV X.K H r b vb->RelV va u->RelV vb w->f a b=some k->vQ A s u w k) (hl:x.length=y.length) (e:Ev.cG f x y=some k) :
  ∃e':Nat->Bool,(∀j (h1:j<us.toArray.size) (h2:j<zs.toArray.size),EqAt A s us.toArray[j] zs.toArray[j] (e' j))/\(List.range us.toArray.size).all e'=k/\us.length=zs.length:=by
 obtain⟨e',h1,h2⟩:=yF e hl;have J:=v1.length;have L:=v2.length;have M:=p1.length;have N:=p2.length;refine⟨e',λj g i=>?_,?_,by omega⟩
 .have V1:j<us.length:=by simpa using g
  have V2:j<zs.length:=by simpa using i
  have c:x[j]?=some x[j]:=Rx (by omega);have d:y[j]?=some y[j]:=Rx (by omega);obtain⟨va,l,o⟩:=v1.get c;obtain⟨vb,p,q⟩:=v2.get d;obtain⟨u,z,B⟩:=p1.get l;obtain⟨w,C,F⟩:=p2.get p;have G:us.toArray[j]=u:=by
   have:=(List.getElem?_eq_some_iff.mp z).2;simpa using this
  have I:zs.toArray[j]=w:=by
   have:=(List.getElem?_eq_some_iff.mp C).2;simpa using this
  rw[G,I];exact(ih _ _ _ _ _ _ _ o q B F (h1 j _ _ c d)).eq
 .rw[<-h2];have:us.toArray.size=x.length:=by simp;omega
  rw[this]
def cK(K:PySem.W.Frag)(H:Hp)(r:List Addr):D->V->Prop
 |.aV,v=>v=.aV
 |.bl b,v=>v=.bl b
 |.int i,v=>v=.int i
 |.str l,v=>v=.str (ay l)
 |.ref n,v=>∃a,v=.ref a/\r[n]?=some a
 |.tup ds,v=>∃a vs,v=.ref a/\cU K H a vs/\aG K H r ds vs
def RV.shape{d:D}{v:V}(h:RV X.K H r d v):cK X.K H r d v:=by
 cases d<;>simp only[RV]at h<;>simp only[cK]<;>first|exact h|exact h.1
def IS{a b:List Nat}:(ay a==ay b)=(a==b):=by
 by_cases e:a=b
 .subst e;simp
 .have c:(ay a==ay b)=false:=beq_eq_false_iff_ne.mpr λz=>e (sQ z);have d:(a==b)=false:=beq_eq_false_iff_ne.mpr e;rw[c,d]
def qv{n:Nat}{A:Around}{x y:List D}{a b:Addr}{vs ws:List V}{k:Bool}(I:Inv X pins σ H s)(hu:A.units<cLine)(q1:fz X.K H a vs)(q2:fz X.K H b ws)(v1:aG X.K H r x vs)(v2:aG X.K H r y ws)(hab:a≠b)
  (ih:∀a b va vb u w k,RV X.K H r a va->RV X.K H r b vb->RelV va u->RelV vb w->Ev.ig h n a b=some k->vQ A.in1 s u w k) (e:Ev.cG (Ev.ig h n) x y=some k):vQ A s (.ref a) (.ref b) k:=by
 obtain⟨i,j,d,_⟩:=I.list q1;obtain⟨l,o,f,_⟩:=I.list q2;by_cases p:x.length=y.length
 .obtain⟨G,q,B,C⟩:=ur v1 v2 j o ih p e;have c:i.toArray.size=l.toArray.size:=by simpa using C
  have g:=RcAt.lists d.isList f.isList c hu q;have z:=RcNeAt.lists d.isList f.isList c hu q;rw[B]at g z;exact⟨.of_refs hab g,g,z⟩
 .have F:=sW p e;subst F;have c:(i.toArray.size != l.toArray.size)=true:=by
   have J:=v1.length;have L:=v2.length;have M:=j.length;have N:=o.length;simp only[ZL,bne_iff_ne,ne_eq];omega
  exact⟨.of_refs hab (.lists_lengths d.isList f.isList c hu),.lists_lengths d.isList f.isList c hu,.lists_lengths d.isList f.isList c hu⟩
def Cb(I:Inv X pins σ H s)(hr:HR X.K H r h){n:Nat}{a:Addr}{ds:List D}(e:Ev.bB h n=some ds)(ha:r[n]?=some a):∃us:List Value,PlainL s.heap a us.toArray:=by
 obtain⟨f,g,b,c,i⟩:=hr.read e;rw[ha]at b;cases b;obtain⟨us,_,d,_⟩:=I.list c;exact⟨us,d⟩
def Cc(I:Inv X pins σ H s)(hr:HR X.K H r h):∀(n:Nat) (a b:D) (v:V) (k:Bool),RV X.K H r a v->RV X.K H r b v->Ev.ig h n a b=some k->k=true:=by
 intro n;induction n with
 |zero=>intro a b v k _ _ e;cases e
 |succ n Z=>
  have l:∀(x y:List D) (g:List V) (k:Bool),aG X.K H r x g->aG X.K H r y g->Ev.cG (Ev.ig h n) x y=some k->k=true:=by
   intro x;induction x with
   |nil=>
    intro y g k f c e;simp only[aG]at f;subst f;cases y with
    |nil=>cases e;rfl
    |cons _ _=>simp only[aG]at c;obtain⟨_,_,c,_⟩:=c;cases c
   |cons d x V3=>
    intro y g k f c e;simp only[aG]at f;obtain⟨v,w,rfl,J,h4⟩:=f;cases y with
    |nil=>simp only[aG]at c;cases c
    |cons d' y=>
     simp only[aG]at c;obtain⟨v',w',L,h5,h6⟩:=c;cases L;simp only[Ev.cG,aa1,ZQ]at e;obtain⟨p,A,q,L,e3⟩:=e;cases e3;rw[Z d d' v p J h5 A,V3 y w q h4 h6 L];rfl
  have lt:∀(a:Addr) (g:List V) (i:Nat) (ds:List D),cU X.K H a g->r[i]?=some a->Ev.bB h i=some ds->False:=λa g i ds f c J=>by
   obtain⟨us,pl⟩:=Cb I hr J c;obtain⟨zs,_,pt,_⟩:=I.tuple f;exact ne_of_list_tuple pl.isList pt rfl
  intro a b v k f c e;have s1:=f.shape;have s2:=c.shape;clear f c;cases a with
  |aV=>simp only[cK]at s1;cases b with
   |aV=>cases e;rfl
   |ref m=>obtain⟨p,z,_⟩:=s2;rw[s1]at z;cases z
   |tup y=>obtain⟨p,_,z,_⟩:=s2;rw[s1]at z;cases z
   |_=>simp only[cK]at s2;rw[s1]at s2;cases s2
  |bl x=>simp only[cK]at s1;cases b with
   |bl y=>simp only[cK]at s2;rw[s1]at s2;cases s2;cases e;simp
   |ref m=>obtain⟨p,z,_⟩:=s2;rw[s1]at z;cases z
   |tup y=>obtain⟨p,_,z,_⟩:=s2;rw[s1]at z;cases z
   |_=>simp only[cK]at s2;rw[s1]at s2;cases s2
  |int x=>simp only[cK]at s1;cases b with
   |int y=>simp only[cK]at s2;rw[s1]at s2;cases s2;cases e;simp
   |ref m=>obtain⟨p,z,_⟩:=s2;rw[s1]at z;cases z
   |tup y=>obtain⟨p,_,z,_⟩:=s2;rw[s1]at z;cases z
   |_=>simp only[cK]at s2;rw[s1]at s2;cases s2
  |str x=>simp only[cK]at s1;cases b with
   |str y=>
    simp only[cK]at s2;rw[s1]at s2;have:x=y:=sQ (by injection s2);subst this;cases e;simp
   |ref m=>obtain⟨p,z,_⟩:=s2;rw[s1]at z;cases z
   |tup y=>obtain⟨p,_,z,_⟩:=s2;rw[s1]at z;cases z
   |_=>simp only[cK]at s2;rw[s1]at s2;cases s2
  |tup x=>
   obtain⟨p,g,rfl,z,w⟩:=s1;cases b with
   |tup y=>
    obtain⟨M,N,o,j,P⟩:=s2;cases o;rw[I.nU j z]at P;exact l x y g k w P e
   |ref m=>
    obtain⟨M,o,j⟩:=s2;cases o;obtain⟨ds,A,_⟩:=Option.map_eq_some_iff.mp e;exact(lt _ _ _ _ z j A).elim
   |_=>cases s2
  |ref i=>
   obtain⟨p,rfl,z⟩:=s1;cases b with
   |ref m=>
    obtain⟨M,o,j⟩:=s2;cases o;replace e:Ev.kF h (Ev.ig h n) i m=some k:=e;unfold Ev.kF at e;split at e
    .simp only[Vw]at e;obtain⟨_,_,e⟩:=e;exact e.symm
    .rename_i Q;split at e
     .rename_i x y B C;exact absurd (hr.inj _ _ _ _ _ z j B C) Q
     .rename_i x y B C;obtain⟨p1,F,vR,W,_⟩:=hr.ob _ _ B;obtain⟨p2,G,mK,Y,_⟩:=hr.ob _ _ C;rw[z]at F;cases F;rw[j]at G;cases G;exact absurd rfl (pq I W Y)
     .rename_i x y B C;obtain⟨p1,F,vR,W,_⟩:=hr.ob _ _ B;obtain⟨p2,G,mK,Y,_⟩:=hr.ob _ _ C;rw[z]at F;cases F;rw[j]at G;cases G;exact absurd rfl (pq I Y W)
     .cases e
   |tup y=>
    obtain⟨M,N,o,j,P⟩:=s2;cases o;obtain⟨ds,A,_⟩:=Option.map_eq_some_iff.mp e;exact(lt _ _ _ _ j z A).elim
   |_=>cases s2
def IT{n:Nat}{A:Around}{x y:List D}{a b:Addr}{vs ws:List V}{k:Bool}(I:Inv X pins σ H s)(hr:HR X.K H r h)(hu:A.units<cLine)(q1:cU X.K H a vs)(q2:cU X.K H b ws)(v1:aG X.K H r x vs)(v2:aG X.K H r y ws)
  (ih:∀a b va vb u w k,RV X.K H r a va->RV X.K H r b vb->RelV va u->RelV vb w->Ev.ig h n a b=some k->vQ A.in1 s u w k) (e:Ev.cG (Ev.ig h n) x y=some k):vQ A s (.ref a) (.ref b) k:=by
 obtain⟨d,C,q,_⟩:=I.tuple q1;obtain⟨f,F,z,_⟩:=I.tuple q2;have l1:=v1.length;have l2:=v2.length;have l3:=C.length;have l4:=F.length;have c:RcAt A s (.ref a) (.ref b) k/\RcNeAt A s (.ref a) (.ref b) (!k):=by
  by_cases M:x.length=y.length
  .obtain⟨i,g,N,Q⟩:=ur v1 v2 C F ih M e;have l:=RcAt.tuples q z hu g;have o:=RcNeAt.tuples q z hu g;have G:d.toArray.size=f.toArray.size:=by simpa using Q
   have B:((List.range (min d.toArray.size f.toArray.size)).all i&&d.toArray.size==f.toArray.size)=k:=by
    rw[<-G,Nat.min_self,N];simp
   rw[B]at l o;exact⟨l,o⟩
  .have J:=sW M e;subst J;have L:∃i:Nat->Bool,∀j (g:j<d.toArray.size) (N:j<f.toArray.size),EqAt A.in1 s d.toArray[j] f.toArray[j] (i j):=by
    obtain⟨i,g⟩:=yG e;refine⟨i,λj W Y=>?_⟩;have V1:j<d.length:=by simpa using W
    have V2:j<f.length:=by simpa using Y
    have P:x[j]?=some x[j]:=Rx (by omega);have B:y[j]?=some y[j]:=Rx (by omega);obtain⟨va,Z,a2⟩:=v1.get P;obtain⟨vb,b1,b2⟩:=v2.get B;obtain⟨u,a3,a4⟩:=C.get Z;obtain⟨w,b3,b4⟩:=F.get b1;have eu:d.toArray[j]=u:=by
     have:=(List.getElem?_eq_some_iff.mp a3).2;simpa using this
    have ew:f.toArray[j]=w:=by
     have:=(List.getElem?_eq_some_iff.mp b3).2;simpa using this
    rw[eu,ew];exact(ih _ _ _ _ _ _ _ a2 b2 a4 b4 (g j _ _ P B)).eq
   obtain⟨i,g⟩:=L;have l:=RcAt.tuples q z hu g;have o:=RcNeAt.tuples q z hu g;have G:(d.toArray.size==f.toArray.size)=false:=by
    simp only[ZL,beq_eq_false_iff_ne,ne_eq];omega
   rw[G,Bool.and_false]at l o;exact⟨l,o⟩
 by_cases p:a=b
 .subst p;rw[I.nU q2 q1]at v2;have J:k=true:=Cc I hr (n+1) (.tup x) (.tup y) (.ref a) k ⟨a,vs,rfl,q1,v1⟩ ⟨a,vs,rfl,q1,v2⟩ e;subst J;exact⟨.same _,c.1,c.2⟩
 .exact⟨.of_refs p c.1,c.1,c.2⟩
end
section
variable{X:Cx}{pins:List (Addr×Obj)}{σ:L2.St}{H:Hp}{s:Shared}{r:List Addr}{h:Hh}
def As(I:Inv X pins σ H s)(hr:HR X.K H r h):∀(n:Nat) (A:Around) (a b:D) (va vb:V) (u w:Value) (k:Bool),A.units+n<cLine->RV X.K H r a va->RV X.K H r b vb->RelV va u->RelV vb w->Ev.ig h n a b=some k->vQ A s u w k:=by
 intro n;induction n with
 |zero=>intro A a b va vb u w k _ _ _ _ _ e;cases e
 |succ n ih=>
  intro A a b va vb u w k hu h1 h2 o f e;have c:A.units<cLine:=by omega
  have B:∀a b va vb u w k,RV X.K H r a va->RV X.K H r b vb->RelV va u->RelV vb w->Ev.ig h n a b=some k->vQ A.in1 s u w k:=λa b va vb u w k=>ih A.in1 a b va vb u w k (by show A.units+1+n<cLine;omega);have s1:=h1.shape;have s2:=h2.shape;have lst:∀{i:Nat} {v:V} {u:Value} {ds:List D},cK X.K H r (.ref i) v->RelV v u->Ev.bB h i=some ds->∃p g,u=.ref p/\PlainL s.heap p (List.toArray g):=λ{i v u ds} hv ru el=>by
   obtain⟨p,rfl,z⟩:=hv;cases ru;obtain⟨g,d⟩:=Cb I hr el z;exact⟨p,g,rfl,d⟩
  have tup:∀{ds:List D} {v:V} {u:Value},cK X.K H r (.tup ds) v->RelV v u->∃p g,u=.ref p/\s.heap.IsTuple p (List.toArray g):=λ{ds v u} hv ru=>by
   obtain⟨p,vs,rfl,z,_⟩:=hv;cases ru;obtain⟨g,_,pt,_⟩:=I.tuple z;exact⟨p,g,rfl,pt⟩
  cases a with
  |aV=>
   simp only[cK]at s1;subst s1;cases o;cases b with
   |aV=>simp only[cK]at s2;subst s2;cases f;cases e;exact⟨.same _,.none_none,.none_none⟩
   |bl y=>simp only[cK]at s2;subst s2;cases f;cases e;exact⟨.none_bool _,.none_bool _,.none_bool _⟩
   |int y=>simp only[cK]at s2;subst s2;obtain⟨t,rfl⟩:=f;cases e;exact⟨.none_int _ _,.none_int _ _,.none_int _ _⟩
   |str y=>simp only[cK]at s2;subst s2;obtain⟨t,rfl⟩:=f;cases e;exact⟨.none_str _ _,.none_str _ _,.none_str _ _⟩
   |tup y=>obtain⟨p,g,rfl,pt⟩:=tup s2 f;cases e;exact⟨.none_tuple pt c,.none_tuple pt c,.none_tuple pt c⟩
   |ref m=>
    obtain⟨ds,l,rfl⟩:=Option.map_eq_some_iff.mp e;obtain⟨p,g,rfl,d⟩:=lst s2 f l;exact⟨.none_list d.isList c,.none_list d.isList c,.none_list d.isList c⟩
  |bl x=>
   simp only[cK]at s1;subst s1;cases o;cases b with
   |aV=>simp only[cK]at s2;subst s2;cases f;cases e;exact⟨.bool_none _,.bool_none _,.bool_none _⟩
   |bl y=>simp only[cK]at s2;subst s2;cases f;cases e;exact⟨.bool_bool _ _,.bool_bool _ _,.bool_bool _ _⟩
   |int y=>simp only[cK]at s2;subst s2;obtain⟨t,rfl⟩:=f;cases e;exact⟨.bool_int _ _ _,.bool_int _ _ _,.bool_int _ _ _⟩
   |str y=>simp only[cK]at s2;subst s2;obtain⟨t,rfl⟩:=f;cases e;exact⟨.bool_str _ _ _,.bool_str _ _ _,.bool_str _ _ _⟩
   |tup y=>obtain⟨p,g,rfl,pt⟩:=tup s2 f;cases e;exact⟨.bool_tuple _ pt c,.bool_tuple _ pt c,.bool_tuple _ pt c⟩
   |ref m=>
    obtain⟨ds,l,rfl⟩:=Option.map_eq_some_iff.mp e;obtain⟨p,g,rfl,d⟩:=lst s2 f l;exact⟨.bool_list _ d.isList c,.bool_list _ d.isList c,.bool_list _ d.isList c⟩
  |int x=>
   simp only[cK]at s1;subst s1;obtain⟨t0,rfl⟩:=o;cases b with
   |aV=>simp only[cK]at s2;subst s2;cases f;cases e;exact⟨.int_none _ _,.int_none _ _,.int_none _ _⟩
   |bl y=>simp only[cK]at s2;subst s2;cases f;cases e;exact⟨.int_bool _ _ _,.int_bool _ _ _,.int_bool _ _ _⟩
   |int y=>simp only[cK]at s2;subst s2;obtain⟨t,rfl⟩:=f;cases e;exact⟨.int_int _ _ _ _,.int_int _ _ _ _,.int_int _ _ _ _⟩
   |str y=>simp only[cK]at s2;subst s2;obtain⟨t,rfl⟩:=f;cases e;exact⟨.int_str _ _ _ _,.int_str _ _ _ _,.int_str _ _ _ _⟩
   |tup y=>obtain⟨p,g,rfl,pt⟩:=tup s2 f;cases e;exact⟨.int_tuple _ _ pt c,.int_tuple _ _ pt c,.int_tuple _ _ pt c⟩
   |ref m=>
    obtain⟨ds,l,rfl⟩:=Option.map_eq_some_iff.mp e;obtain⟨p,g,rfl,d⟩:=lst s2 f l;exact⟨.int_list _ _ d.isList c,.int_list _ _ d.isList c,.int_list _ _ d.isList c⟩
  |str x=>
   simp only[cK]at s1;subst s1;obtain⟨t0,rfl⟩:=o;cases b with
   |aV=>simp only[cK]at s2;subst s2;cases f;cases e;exact⟨.str_none _ _,.str_none _ _,.str_none _ _⟩
   |bl y=>simp only[cK]at s2;subst s2;cases f;cases e;exact⟨.str_bool _ _ _,.str_bool _ _ _,.str_bool _ _ _⟩
   |int y=>simp only[cK]at s2;subst s2;obtain⟨t,rfl⟩:=f;cases e;exact⟨.str_int _ _ _ _,.str_int _ _ _ _,.str_int _ _ _ _⟩
   |str y=>
    simp only[cK]at s2;subst s2;obtain⟨t,rfl⟩:=f;cases e;rw[<-IS];exact⟨.str_str _ _ _ _,.str_str _ _ _ _,.str_str _ _ _ _⟩
   |tup y=>obtain⟨p,g,rfl,pt⟩:=tup s2 f;cases e;exact⟨.str_tuple _ _ pt c,.str_tuple _ _ pt c,.str_tuple _ _ pt c⟩
   |ref m=>
    obtain⟨ds,l,rfl⟩:=Option.map_eq_some_iff.mp e;obtain⟨p,g,rfl,d⟩:=lst s2 f l;exact⟨.str_list _ _ d.isList c,.str_list _ _ d.isList c,.str_list _ _ d.isList c⟩
  |tup x=>
   cases b with
   |tup y=>
    obtain⟨p,vs,rfl,z,w1⟩:=s1;obtain⟨Z,vs',rfl,C,w2⟩:=s2;cases o;cases f;exact IT I hr c z C w1 w2 B e
   |aV=>obtain⟨p,g,rfl,pt⟩:=tup s1 o;simp only[cK]at s2;subst s2;cases f;cases e;exact⟨.tuple_none pt c,.tuple_none pt c,.tuple_none pt c⟩
   |bl y=>obtain⟨p,g,rfl,pt⟩:=tup s1 o;simp only[cK]at s2;subst s2;cases f;cases e;exact⟨.tuple_bool _ pt c,.tuple_bool _ pt c,.tuple_bool _ pt c⟩
   |int y=>obtain⟨p,g,rfl,pt⟩:=tup s1 o;simp only[cK]at s2;subst s2;obtain⟨t,rfl⟩:=f;cases e;exact⟨.tuple_int _ _ pt c,.tuple_int _ _ pt c,.tuple_int _ _ pt c⟩
   |str y=>obtain⟨p,g,rfl,pt⟩:=tup s1 o;simp only[cK]at s2;subst s2;obtain⟨t,rfl⟩:=f;cases e;exact⟨.tuple_str _ _ pt c,.tuple_str _ _ pt c,.tuple_str _ _ pt c⟩
   |ref m=>
    obtain⟨p,g,rfl,pt⟩:=tup s1 o;obtain⟨ds,l,rfl⟩:=Option.map_eq_some_iff.mp e;obtain⟨Z,W,rfl,d⟩:=lst s2 f l;exact⟨.tuple_list pt d.isList c,.tuple_list pt d.isList c,.tuple_list pt d.isList c⟩
  |ref i=>
   cases b with
   |ref m=>
    replace e:Ev.kF h (Ev.ig h n) i m=some k:=e;unfold Ev.kF at e;split at e
    .rename_i V4;subst V4;simp only[Vw]at e;obtain⟨ds,l,rfl⟩:=e;obtain⟨p,g,rfl,d⟩:=lst s1 o l;obtain⟨p0,rfl,z⟩:=s1;obtain⟨p1,rfl,C⟩:=s2;rw[z]at C;cases C;cases o;cases f;have q:(List.range (List.toArray g).size).all (λ_=>true)=true:=by simp
     have rc:=RcAt.lists (A:=A) (e:=λ_=>true) d.isList d.isList rfl c λj _ _=>EqAt.same _;have ne:=RcNeAt.lists (A:=A) (e:=λ_=>true) d.isList d.isList rfl c λj _ _=>EqAt.same _;rw[q]at rc ne;exact⟨.same _,rc,ne⟩
    .rename_i Y;obtain⟨p0,rfl,z⟩:=s1;obtain⟨p1,rfl,C⟩:=s2;cases o;cases f;split at e
     .rename_i x y M N;obtain⟨q0,F,vR,J,P⟩:=hr.ob _ _ M;obtain⟨q4,G,mK,L,Q⟩:=hr.ob _ _ N;rw[z]at F;cases F;rw[C]at G;cases G;exact qv I c (.of J) (.of L) P Q (λw=>Y (hr.inj _ _ _ _ _ z (by rw[w];exact C) M N)) B e
     .rename_i x y M N;obtain⟨q0,F,vR,J,P⟩:=hr.ob _ _ M;obtain⟨q4,G,mK,L,Q⟩:=hr.ob _ _ N;rw[z]at F;cases F;rw[C]at G;cases G;exact qv I c (Gk J) (.of L) P Q (pq I J L) B e
     .rename_i x y M N;obtain⟨q0,F,vR,J,P⟩:=hr.ob _ _ M;obtain⟨q4,G,mK,L,Q⟩:=hr.ob _ _ N;rw[z]at F;cases F;rw[C]at G;cases G;exact qv I c (.of J) (Gk L) P Q (pq I L J).symm B e
     .cases e
   |aV=>obtain⟨ds,l,rfl⟩:=Option.map_eq_some_iff.mp e;obtain⟨p,g,rfl,d⟩:=lst s1 o l;simp only[cK]at s2;subst s2;cases f;exact⟨.list_none d.isList c,.list_none d.isList c,.list_none d.isList c⟩
   |bl y=>obtain⟨ds,l,rfl⟩:=Option.map_eq_some_iff.mp e;obtain⟨p,g,rfl,d⟩:=lst s1 o l;simp only[cK]at s2;subst s2;cases f;exact⟨.list_bool _ d.isList c,.list_bool _ d.isList c,.list_bool _ d.isList c⟩
   |int y=>obtain⟨ds,l,rfl⟩:=Option.map_eq_some_iff.mp e;obtain⟨p,g,rfl,d⟩:=lst s1 o l;simp only[cK]at s2;subst s2;obtain⟨t,rfl⟩:=f;exact⟨.list_int _ _ d.isList c,.list_int _ _ d.isList c,.list_int _ _ d.isList c⟩
   |str y=>obtain⟨ds,l,rfl⟩:=Option.map_eq_some_iff.mp e;obtain⟨p,g,rfl,d⟩:=lst s1 o l;simp only[cK]at s2;subst s2;obtain⟨t,rfl⟩:=f;exact⟨.list_str _ _ d.isList c,.list_str _ _ d.isList c,.list_str _ _ d.isList c⟩
   |tup y=>
    obtain⟨ds,l,rfl⟩:=Option.map_eq_some_iff.mp e;obtain⟨p,g,rfl,d⟩:=lst s1 o l;obtain⟨Z,W,rfl,pt⟩:=tup s2 f;exact⟨.list_tuple d.isList pt c,.list_tuple d.isList pt c,.list_tuple d.isList pt c⟩
where
 Gk {K:PySem.W.Frag} {H:Hp} {a:Addr} {vs:List V} (q:Af K H a vs):fz K H a vs:=by
  rcases q with ⟨ob,e2⟩|e2
  .exact .inl (.inr ⟨ob,e2⟩)
  .exact .inr e2
end
theorem Good.units{G:Tb}{n:Nat}{sc:Scope}{N:List Str}{df:Bool}{X:Cx}(g:Good G n sc N df X):X.A.units+1+Ev.deep<cLine:=by
 have:=g.room.un;have:Ev.deep=20:=rfl;omega
section
variable{G:Tb}{n:Nat}{sc:Scope}{N:List Str}{df:Bool}{X:Cx}
def sX{pins:List (Addr×Obj)}{σ:L2.St}{H:Hp}{s:Shared}{Q:VK}{r:List Addr}{h:Hh}{k:Bool}(I:Inv X pins σ H s)(hr:HR X.K H r h)(q:Res X.K r H h (.bl k) Q):EP X pins σ Q (.bool k) s:=
 ⟨.bl k,H,I,rfl,q.here rfl hr⟩
def Gm(g:Good G n sc N df X):eF X (compareOp .Eq) (iZ X.K (iJ .eq)):=by
 intro c s σ H x y v u Q I rx ry q;obtain⟨r,h,a,b,d,o,f,i,j,e,q⟩:=q;obtain⟨k,l,rfl,rfl⟩:=mH e;have:=g.units;exact(As I f Ev.deep X.A a b x y v u k (by omega) i j rx ry l).rc _ _ _ _ (sX I f q)
def QN(g:Good G n sc N df X):eF X (compareOp .NotEq) (iZ X.K (iJ .ne)):=by
 intro f s σ H x y v u Q I rx ry q;obtain⟨r,h,a,b,d,z,i,j,l,e,q⟩:=q;obtain⟨k,c,rfl,rfl⟩:=mH e;have:=g.units
 delta Ev.cop at c;dsimp only at c;simp only[Vw]at c
 obtain⟨o,p,rfl⟩:=c;exact(As I i Ev.deep X.A a b x y v u o (by omega) j l rx ry p).ne _ _ _ _ (sX I i q)
def Cd{op:CmpOp}{o:bM}{p:Int->Int->Bool}(ho:eF X (compareOp op) (vm λi j=>.bl (p i j)))(hc:∀a b h k,Ev.cop o a b h=some k->∃i j,a=.int i/\b=.int j/\k=p i j):eF X (compareOp op) (iZ X.K (iJ o)):=by
 intro c s σ H x y v u Q I rx ry q;obtain⟨r,h,a,b,d,A,f,g,l,e,q⟩:=q;obtain⟨k,z,rfl,rfl⟩:=mH e;obtain⟨i,j,rfl,rfl,rfl⟩:=hc _ _ _ _ z;exact ho c s σ H x y v u Q I rx ry ⟨i,j,g,l,q.here rfl f⟩
def QO:eF X (compareOp .Lt) (iZ X.K (iJ .lt)):=Cd Qt λa b h k e=>by
 cases a<;>cases b <;> (delta Ev.cop at e;dsimp only at e)<;>first | (cases e;exact⟨_,_,rfl,rfl,rfl⟩)|cases e
def Gn:eF X (compareOp .Gt) (iZ X.K (iJ .gt)):=Cd Qu λa b h k e=>by
 cases a<;>cases b <;> (delta Ev.cop at e;dsimp only at e)<;>first | (cases e;exact⟨_,_,rfl,rfl,rfl⟩)|cases e
end
theorem yH{h:Hh}{x:D}:∀{ys:List D}{k:Bool},Ev.mem h x ys=some k->∃e:Nat->Bool,(∀(j:Nat) y,ys[j]?=some y->Ev.ig h Ev.deep y x=some (e j))/\(List.range ys.length).any e=k
 |[],_,e=>⟨λ_=>true,(λj y h=>by simp at h),by cases e;simp⟩
 |y :: ys,k,e=>by
  simp only[Ev.mem,aa1,ZQ]at e;obtain⟨p,a,q,b,c⟩:=e;cases c;obtain⟨e,d,f⟩:=yH b;refine⟨λj=>match j with|0=>p|j+1=>e j,λj i g=>?_,?_⟩
  .cases j with
   |zero=>simp at g;subst g;exact a
   |succ j=>exact d j i (by simpa using g)
  .rw[ZU,abz,List.any_cons,List.any_map,<-f];rfl
section
variable{X:Cx}{pins:List (Addr×Obj)}{σ:L2.St}{H:Hp}{s:Shared}{r:List Addr}{h:Hh}
open Classical in
def yI(I:Inv X pins σ H s)(hr:HR X.K H r h){A:Around}(hu:A.units+1+Ev.deep<cLine){x:D}{vx:V}{ux:Value}(v1:RV X.K H r x vx)(rx:RelV vx ux){ys:List D}{vs:List V}{us:List Value}(v2:aG X.K H r ys vs)(p2:Vals vs us){k:Bool}(e:Ev.mem h x ys=some k) :
  ∃f:Value->Bool,(∀y,y∈us.toArray->EqAt A.in1 s y ux (f y))/\us.toArray.any f=k:=by
 obtain⟨c,B,C⟩:=yH e;have N:=v2.length;have P:=p2.length;have g:∀(j:Nat) (a:j<us.length),EqAt A.in1 s us[j] ux (c j):=λj a=>by
  have o:ys[j]?=some ys[j]:=Rx (by omega);obtain⟨Q,F,G⟩:=v2.get o;obtain⟨u,J,L⟩:=p2.get F;have M:us[j]=u:=(List.getElem?_eq_some_iff.mp J).2;rw[M];exact(As I hr Ev.deep A.in1 _ _ _ _ _ _ _ (by show A.units+1+Ev.deep<cLine;exact hu) G v1 L rx (B j _ o)).eq
 refine⟨λy=>decide (∃j,∃a:j<us.length,us[j]=y/\c j=true),λy p=>?_,?_⟩
 .by_cases i:∃j,∃a:j<us.length,us[j]=y/\c j=true
  .obtain⟨j,a,rfl,d⟩:=i;have q:=g j a;rw[d]at q;have:decide (∃j',∃b:j'<us.length,us[j']=us[j]/\c j'=true)=true:=aae ⟨j,a,rfl,d⟩;show EqAt A.in1 s us[j] ux (decide (∃j',∃b:j'<us.length,us[j']=us[j]/\c j'=true));rw[this];exact q
  .show EqAt A.in1 s y ux (decide (∃j',∃b:j'<us.length,us[j']=y/\c j'=true));rw[Z6 i];have l:y∈us:=by simpa using p
   obtain⟨j,a,rfl⟩:=List.getElem_of_mem l;have q:=g j a;have:c j=false:=by
    cases z:c j with
    |false=>rfl
    |true=>exact absurd ⟨j,a,rfl,z⟩ i
   rw[this]at q;exact q
 .rw[<-C,Bool.eq_iff_iff,Array.any_eq_true',List.any_eq_true];constructor
  .rintro⟨y,p,hd⟩;obtain⟨j,a,_,d⟩:=aag hd;exact⟨j,List.mem_range.mpr (by omega),d⟩
  .rintro⟨j,a,d⟩;have b:j<us.length:=by have:=List.mem_range.mp a;omega
   exact⟨us[j],by simp,aae ⟨j,b,rfl,d⟩⟩
end
section
variable{G:Tb}{n:Nat}{sc:Scope}{N:List Str}{df:Bool}{X:Cx}
def in_of(g:Good G n sc N df X){pins:List (Addr×Obj)}{σ:L2.St}{H:Hp}{s:Shared}{r:List Addr}{h:Hh}(I:Inv X pins σ H s)(hr:HR X.K H r h){a b:D}{x y:V}{v u:Value}{k:Bool}(v1:RV X.K H r a x)(v2:RV X.K H r b y)(rx:RelV x v)(ry:RelV y u)(e:Ev.isin a b h=some k) :
  (∀Q:Value->Shared->Prop,∀E:Value->Shared->Prop,Q (.bool k) s->wpAny (model X.prog X.w) X.A (compareOp .In v u) Q E s)/\(∀Q:Value->Shared->Prop,∀E:Value->Shared->Prop,Q (.bool (!k)) s->wpAny (model X.prog X.w) X.A (compareOp .NotIn v u) Q E s):=by
 have o:=g.units;cases b with
 |str l=>
  cases a with
  |str c=>
   have s1:=v1.shape;have s2:=v2.shape;simp only[cK]at s1 s2;subst s1 s2;obtain⟨t,rfl⟩:=rx;obtain⟨P,rfl⟩:=ry
   match c,e with
   |[c],e=>
    cases e;have q:(!(Builtin.Str.occurrences (ay l) (ay [c]) 0 (ay l).length 1).isEmpty)=l.contains c:=by
     have:=PySem.StrLaws.found_one (ay l) c;rw[show(ay [c])=⟨#[c]⟩from rfl,this,Bool.eq_iff_iff];have j:l.contains c=true↔c∈l:=by simp
     rw[j];exact⟨λz=>by simpa[ay]using aag z,λz=>aae (by simpa[ay]using z)⟩
    refine⟨λQ E d=>in_str (by rw[q];exact d),λQ E d=>notIn_str (by rw[q];exact d)⟩
   |[],e=>cases e
   |_ :: _ :: _,e=>cases e
  |_=>cases e
 |tup W=>
  obtain⟨p,F,rfl,z,w⟩:=v2.shape;cases ry;obtain⟨J,pv,pt,_⟩:=I.tuple z;obtain⟨f,f1,f2⟩:=yI I hr o v1 rx w pv e;refine⟨λQ E d=>in_tupleAt f pt f1 (by rw[f2];exact d),λQ E d=>notIn_tupleAt f pt f1 (by rw[f2];exact d)⟩
 |ref i=>
  simp only[Ev.isin,ZQ]at e;obtain⟨ds,j,L⟩:=e;obtain⟨p,rfl,z⟩:=v2.shape;cases ry;obtain⟨Y,F,B,M,w⟩:=hr.read j;rw[z]at B;cases B;obtain⟨J,pv,C,_⟩:=I.list M;obtain⟨f,f1,f2⟩:=yI I hr o v1 rx w pv L;refine⟨λQ E d=>in_listAt f C.isList f1 (by rw[f2];exact d),λQ E d=>notIn_listAt f C.isList f1 (by rw[f2];exact d)⟩
 |_=>cases e
def Ei(g:Good G n sc N df X):eF X (compareOp .NotIn) (iZ X.K (iJ .iH)):=by
 intro c s σ H x y v u Q I rx ry q;obtain⟨r,h,a,b,d,j,f,l,o,e,q⟩:=q;obtain⟨k,p,rfl,rfl⟩:=mH e;have i:(Ev.isin a b j).map (!·)=some k:=by cases a<;>cases b<;>exact p
 simp only[Vw]at i;obtain⟨A,z,rfl⟩:=i;exact(in_of g I f l o rx ry z).2 _ _ (sX I f q)
def sY(a b:List Nat):ay a++ay b=ay (a++b):=by
 show Str.append (ay a) (ay b)=_;simp[Str.append,ay]
def IU{pins:List (Addr×Obj)}{σ:L2.St}{H:Hp}{s:Shared}{Q:Value->Shared->Prop}{E:Value->Shared->Prop}(I:Inv X pins σ H s){a b:Addr}{ys:List V}(h1:cU X.K H a [])(h2:cU X.K H b ys)(q:Q (.ref b) s):wpAny (model X.prog X.w) X.A (binaryOp .Add (.ref a) (.ref b)) Q E s:=by
 obtain⟨B,o,p,_⟩:=I.tuple h1;obtain⟨C,F,r,_⟩:=I.tuple h2;cases o;obtain⟨⟨x,y,i,z⟩,j,k,n,l⟩:=id p;obtain⟨⟨Us,f,g,h⟩,c,d,n2,e⟩:=id r;simp only at k l d e;subst k l d e;exact concat_meets ⟨_,j,rfl⟩ ⟨_,c,rfl⟩ abY seq_tuple_add aby abr (abn _ _)
  (tuple_addW0 a b _ _ n n2 y f z h (by simp)) ⟨j,c,q⟩
def Mb:eF X (binaryOp .Add) (iZ X.K (Ev.bP .add)):=by
 intro c s σ H x y v u Q I rx ry q;obtain⟨r,h,a,b,d,h',g,Z,v2,e,q⟩:=q;have s1:=Z.shape;have s2:=v2.shape;cases a with
 |int i=>cases b with
  |int j=>cases e;exact K4 c s σ H x y v u Q I rx ry ⟨i,j,s1,s2,q.here rfl g⟩
  |_=>cases e
 |str i=>cases b with
  |str j=>
   delta Ev.bP at e;dsimp only at e
   split at e
   .rename_i f;cases e;rw[gQ]at f;refine zW c s σ H x y v u Q I rx ry ⟨ay i,ay j,s1,s2,by rw[dg,dg];exact f,?_⟩;rw[sY];exact q.here ⟨rfl,by rw[ZX];exact f⟩ g
   .cases e
  |_=>cases e
 |tup i=>cases b with
  |tup j=>
   delta Ev.bP at e;dsimp only at e
   split at e
   .rename_i f;cases e;rw[gQ]at f;obtain⟨A,k,rfl,l,C⟩:=s1;obtain⟨o,B,rfl,z,F⟩:=s2;have J:=C.length;have L:=F.length;cases k with
    |nil=>
     cases rx;cases ry;refine IU I l z ⟨.ref o,H,I,rfl,q.here ?_ g⟩;have:i=[]:=by cases i with|nil=>rfl|cons _ _=>simp at J
     subst this;exact⟨o,B,rfl,z,by simpa using F⟩
    |cons M k=>
     refine Iq c s σ H _ _ v u Q I rx ry ⟨A,o,M :: k,B,rfl,rfl,l,z,by simp,by rw[J,L];exact f,λP=>?_,λP p hp=>?_⟩
     .subst P;have:j=[]:=by cases j with|nil=>rfl|cons _ _=>simp at L
      subst this;exact q.here ⟨A,M :: k,rfl,l,by simpa using C⟩ g
     .exact q.tup (C.append F) g hp
   .cases e
  |_=>cases e
 |ref i=>cases b with
  |ref j=>
   delta Ev.bP at e;dsimp only at e
   split at e
   .rename_i ds es e1 e2;obtain⟨A,rfl,l⟩:=s1;obtain⟨o,rfl,z⟩:=s2;cases rx;cases ry;obtain⟨p1,W,k,g2,g3⟩:=g.ob _ _ e1;obtain⟨p2,Y,B,k2,k3⟩:=g.ob _ _ e2;rw[l]at W;cases W;rw[z]at Y;cases Y;obtain⟨f,q2⟩:=q.lst e (g3.append k3) g;exact Lk c s σ H (.ref A) (.ref o) _ _ Q I rfl rfl ⟨_,_,k,B,rfl,rfl,g2,k2,by rw[ZX]at f;exact f,q2⟩
   .cases e
  |_=>cases e
 |_=>cases b<;>cases e
def Mc:eF X (binaryOp .Sub) (iZ X.K (Ev.bP .sub)):=by
 intro c s σ H x y v u Q I rx ry q;obtain⟨r,h,a,b,d,l,f,g,k,e,q⟩:=q;cases a with
 |int i=>cases b with
  |int j=>cases e;exact K5 c s σ H x y v u Q I rx ry ⟨i,j,g,k,q.here rfl f⟩
  |_=>cases e
 |_=>cases b<;>cases e
def IV:eF X (binaryOp .FloorDiv) (iZ X.K (Ev.bP .fdiv)):=by
 intro c s σ H x y v u Q I rx ry q;obtain⟨r,h,a,b,d,o,f,g,k,e,q⟩:=q;cases a with
 |int i=>cases b with
  |int j=>
   delta Ev.bP at e;dsimp only at e
   split at e
   .rename_i l;cases e;exact Ic c s σ H x y v u Q I rx ry ⟨i,j,g,k,l,q.here rfl f⟩
   .cases e
  |_=>cases e
 |_=>cases b<;>cases e
def Me:eF X (binaryOp .Mod) (iZ X.K (Ev.bP .mod)):=by
 intro c s σ H x y v u Q I rx ry q;obtain⟨r,h,a,b,d,o,f,g,k,e,q⟩:=q;cases a with
 |int i=>cases b with
  |int j=>
   delta Ev.bP at e;dsimp only at e
   split at e
   .rename_i l;cases e;exact K7 c s σ H x y v u Q I rx ry ⟨i,j,g,k,l,q.here rfl f⟩
   .cases e
  |_=>cases e
 |_=>cases b<;>cases e
end
section
variable{X:Cx}
def Mf(n:Nat)(i:Int):Ev.eK n i=L2.eK n i:=rfl
def Mh{α:Type}(xs:List α)(i:Int):Ev.bE xs i=L2.bE xs i:=rfl
theorem aG.bE{K:PySem.W.Frag}{H:Hp}{r:List Addr}{ds:List D}{vs:List V}{i:Int}{d:D}(w:aG K H r ds vs)(e:Ev.bE ds i=some d):∃v,L2.bE vs i=some v/\RV K H r d v:=by
 unfold Ev.bE at e;obtain⟨j,a,b⟩:=Option.bind_eq_some_iff.mp e;obtain⟨v,c,f⟩:=w.get b;exact⟨v,by unfold L2.bE;rw[w.length,<-Mf,a];exact c,f⟩
def QS:yo X (iZ X.K LK):=by
 intro value f g s σ H x y v u Q I rx ry q hs;obtain⟨r,h,a,b,d,P,j,k,J,e,q⟩:=q;obtain⟨e,rfl⟩:=Ev.aI e;cases b with
 |int i=>
  have s2:=J.shape;cases a with
  |tup ds=>
   obtain⟨p,o,rfl,z,w⟩:=k.shape;obtain⟨A,B,C⟩:=w.bE e;exact Lh value f g s σ H _ y v u Q I rx ry ⟨p,o,i,A,rfl,s2,z,B,q.here C j⟩ hs
  |str l=>
   simp only[RV]at k;obtain⟨rfl,L⟩:=k;simp only[Ev.eX,Vw]at e;obtain⟨c,F,rfl⟩:=e;exact Li value f g s σ H _ y v u Q I rx ry ⟨ay l,i,c,rfl,s2,by rw[dg];exact L,by simpa[ay,Mh]using F,q.here ⟨rfl,by show 1<=sizeLine;decide⟩ j⟩ hs
  |ref m=>
   simp only[Ev.eX,ZQ]at e;obtain⟨ds,F,M⟩:=e;obtain⟨p,rfl,z⟩:=k.shape;obtain⟨W,o,G,N,w⟩:=j.read F;rw[z]at G;cases G;obtain⟨A,B,C⟩:=w.bE M;exact yp value f g s σ H _ y v u Q I rx ry ⟨p,o,i,A,rfl,s2,N,B,q.here C j⟩ hs
  |_=>cases e
 |_=>cases a<;>cases e
theorem aG.cut{K:PySem.W.Frag}{H:Hp}{r:List Addr}{ds:List D}{vs:List V}(w:aG K H r ds vs)(lo hi:Option Int):aG K H r (Ev.cut ds lo hi) (nZ vs lo hi):=by
 unfold Ev.cut nZ;rw[w.length];exact(w.drop _).take _
def uu{α:Type}(xs:List α)(lo hi:Option Int)(h:Ev.aT xs.length 0 lo=0/\Ev.aT xs.length xs.length hi=xs.length):Ev.cut xs lo hi=xs:=by
 unfold Ev.cut;rw[h.1,h.2];simp
def IW{α:Type}(xs:List α)(lo hi:Option Int):(Ev.cut xs lo hi).length<=xs.length:=by
 unfold Ev.cut;rw[aaZ,abb];omega
def uO{prog:Program}{w:World}{A:Around}{E:Value->Shared->Prop}{s:Shared}{t sl:Addr}{items:Array Value}{vl vu:Value}{lo hi:Option Int}{Q:Value->Shared->Prop}(ht:IsTup s.heap t items)(hs:s.heap.IsSliceOf sl vl vu .none)(pl:IsPart vl lo)(pu:IsPart vu hi)
  (hw:HT.aT items.size 0 lo=0/\HT.aT items.size items.size hi=items.size) (h:Q (.ref t) s):wpAny (model prog w) A (getItem (.ref t) (.ref sl)) Q E s:=by
 obtain⟨d,b,c,e⟩:=id hs;have Le:s.TypeIs (.ref sl) "slice" :=⟨d,b,c⟩
 unfold getItem;try with_reducible refine wpAny_holding ?_
 first|refine gv (ZR ?_)|skip
 refine gv (wpAny_sequenceKey ht.typeIs (by decide) ?_);refine gv (aa3 (name:=Str.ofString "__getitem__") ht.typeIs aaF
  (aaY aaF ht.typeIs entry_tuple_getitem ?_ (args_tuple_getitem _ _)))
 show wpAny _ _ (Builtin.Tuple.tupleItemsOf (.ref t) >>= _) _ _ s;refine gv (tupleItemsOf_ ht ?_);refine gv (abT Le ?_);rw[xC (by decide)];refine gv (HT.kD hs pl pu ?_);have a:(((HT.aT items.size 0 lo:Nat):Int)==0&&(1:Int)==1&&(HT.aT items.size items.size hi - HT.aT items.size 0 lo)==items.size)=true:=by
  rw[hw.1,hw.2];simp
 show wpAny _ _ (if (((HT.aT items.size 0 lo:Nat):Int)==0&&(1:Int)==1&&(HT.aT items.size items.size hi - HT.aT items.size 0 lo)==items.size)=true then _ else _) _ _ s;rw[xC a];refine gv (m:=Builtin.Tuple.tupleIsExact (.ref t)) (gv (abT ht.typeIs (ZR ?_)));show wpAny _ _ (if ((Value.type "tuple" ==Value.type "tuple")=true)then _ else _) _ _ s;rw[xC (by decide)];exact gv (acr (gv (ZR (ZR ⟨_,rfl,ZR h⟩))))
def Ce(lo hi:Option Int)(n:Nat):Builtin.Str.strSliceIndices lo hi 1 n=(List.range (Ev.aT n n hi - Ev.aT n 0 lo)).map (λk=>Ev.aT n 0 lo+k):=by
 have Mi:∀o:Option Int,((match o with|none=>(0:Int)|some i=>max 0 (min (if i<0 then i+(n:Int)else i) (n:Int))))=((Ev.aT n 0 o:Nat):Int):=λo=>by
  cases o with
  |none=>rfl
  |some i=>simp only[Ev.aT];split<;>omega
 have Mj:∀o:Option Int,((match o with|none=>(n:Int)|some i=>max 0 (min (if i<0 then i+(n:Int)else i) (n:Int))))=((Ev.aT n n o:Nat):Int):=λo=>by
  cases o with
  |none=>rfl
  |some i=>simp only[Ev.aT];split<;>omega
 have e:Builtin.Str.strSliceIndices lo hi 1 n=sliceRange (match lo with|none=>(0:Int)|some i=>max 0 (min (if i<0 then i+(n:Int)else i) (n:Int))) (match hi with|none=>(n:Int)|some i=>max 0 (min (if i<0 then i+(n:Int)else i) (n:Int))) 1:=by
  unfold Builtin.Str.strSliceIndices;cases lo<;>cases hi<;>simp
 rw[e,Mi,Mj,sliceRange_one]
def Ml(l:List Nat)(lo hi:Option Int):((Builtin.Str.strSliceIndices lo hi 1 (ay l).length).filterMap ((ay l).cps[·]?)).toArray=(Ev.cut l lo hi).toArray:=by
 rw[dg,Ce,pick_run];simp[ay,Ev.cut]
def Mm:lz X (Lu X.K):=by
 intro b s σ H x v vl vu lo hi sl Q I rx hs pl pu q;obtain⟨r,h,a,d,h',y,C,e,q⟩:=q;cases a with
 |tup ds=>
  cases e;obtain⟨p,c,rfl,z,w⟩:=C.shape;by_cases G:HT.aT c.length 0 lo=0/\HT.aT c.length c.length hi=c.length
  .cases rx;obtain⟨us,pv,pt,hz⟩:=I.tuple z;have Y:=pv.length;have V5:Ev.aT ds.length 0 lo=0/\Ev.aT ds.length ds.length hi=ds.length:=by rw[<-w.length];exact G
   refine⟨"tuple",_,PyProof.Rows.slot_tuple_getitem.lookup,pt.typeIs,?_⟩;refine uO pt hs pl pu (by rw[ZL,<-Y];exact G) ⟨.ref p,H,I,rfl,q.here ?_ y⟩;rw[uu ds lo hi V5];exact⟨p,c,rfl,z,w⟩
  .exact Lf b s σ H _ v vl vu lo hi sl Q I rx hs pl pu ⟨p,c,rfl,z,G,λp' J=>q.tup (w.cut lo hi) y J⟩
 |str l=>
  simp only[RV]at C;obtain⟨rfl,Y⟩:=C;obtain⟨t,rfl⟩:=rx;cases e;refine⟨"str",_,PySem.F.slot_str_getitem.lookup,typeIs_str s _ t,?_⟩;have f:∀{v:Value} {o:Option Int},IsPart v o->∃p:Option (Int×Tok),v=partValue p/\p.map (·.1)=o:=λ{v o} J=>by
   cases J with
   |none=>exact⟨none,rfl,rfl⟩
   |int i t=>exact⟨some (i,t),rfl,rfl⟩
  obtain⟨g,L,Z⟩:=f pl;obtain⟨j,e3,e4⟩:=f pu;subst L e3;obtain⟨os,M,N,P⟩:=hs;refine wpAny_getItem_str_slice (l:=g) (u:=j) (st:=none) ⟨os,M,N,P⟩ rfl ?_;have Gp:((slicePicked (ay l) g j none).filterMap ((ay l).cps[·]?)).toArray=(Ev.cut l lo hi).toArray:=by
   show((Builtin.Str.strSliceIndices (g.map (·.1)) (j.map (·.1)) 1 (ay l).length).filterMap ((ay l).cps[·]?)).toArray=_;rw[Z,e4];exact Ml l lo hi
  have hcl:=IW l lo hi;unfold sliceMade;refine post_val_or_made (λ_=>?_) λt' k=>?_
  .rw[Gp];show(Ev.cut l lo hi).toArray.size<=sizeLine;simp only[ZL];omega
  .have A:(if (((none:Option (Int×Tok)).map (·.1)).getD 1==1&&(slicePicked (ay l) g j none).length==(ay l).length)=true then ay l else (⟨((slicePicked (ay l) g j none).filterMap ((ay l).cps[·]?)).toArray⟩:Str))=ay (Ev.cut l lo hi):=by
    split
    .rename_i hc;rw[ZJ]at hc;have B:(slicePicked (ay l) g j none).length=(ay l).length:=eq_of_beq hc.2;have W:(slicePicked (ay l) g j none).length=Ev.aT l.length l.length hi - Ev.aT l.length 0 lo:=by
      show(Builtin.Str.strSliceIndices (g.map (·.1)) (j.map (·.1)) 1 (ay l).length).length=_;rw[Z,e4,Ce,dg];simp
     rw[dg]at B;have hb:Ev.aT l.length l.length hi<=l.length:=HT.vz _ _ (ZO _) hi;have ha:Ev.aT l.length 0 lo<=l.length:=HT.vz _ _ (aaz _) lo;rw[uu l lo hi ⟨by omega,by omega⟩]
    .rw[Gp];rfl
   rw[A];exact⟨.str (ay (Ev.cut l lo hi)),H,I.tok _,⟨_,rfl⟩,q.here ⟨rfl,by omega⟩ y⟩
 |ref m=>
  simp only[Ev.ir]at e;split at e
  .rename_i ds L;obtain⟨p,rfl,z⟩:=C.shape;obtain⟨p',c,z',q1,w⟩:=y.read L;rw[z]at z';cases z';obtain⟨hz,q2⟩:=q.lst e (w.cut lo hi) y;exact Iu b s σ H _ v vl vu lo hi sl Q I rx hs pl pu ⟨p,c,rfl,q1,q2⟩
  .cases e
 |_=>cases e
theorem vV:∀(k:Nat) (l:List Nat) (acc:List Nat),(List.replicate k l.toArray).foldl (·++·) acc.toArray=(acc++Ev.rep k l).toArray
 |0,l,acc=>by simp[Ev.rep]
 |k+1,l,acc=>by
  rw[ZV,aan];have:acc.toArray++l.toArray=(acc++l).toArray:=by simp
  rw[this,vV k l (acc++l)];simp[Ev.rep,ZV]
def pA{α:Type}(k:Nat)(l:List α):(Ev.rep k l).length=k*l.length:=by
 unfold Ev.rep;exact len_rep l k
def IX{l:List Nat}{k:Int}(h:0<=k):Txt.mul (ay l) k=ay (Ev.rep k.toNat l):=by
 unfold Txt.mul;by_cases b:k<1
 .have:k=0:=by omega
  subst this;rw[xC (by decide)];rfl
 .rw[ZS b];split
  .rename_i a;rw[aau]at a;rcases a with a|a
   .have:k=1:=by simpa using a
    subst this;simp[Ev.rep]
   .rw[dg]at a;have:l=[]:=by cases l with|nil=>rfl|cons _ _=>simp at a
    subst this;simp[Ev.rep,ay]
  .show(⟨(List.replicate k.toNat (ay l).cps).foldl (·++·) #[]⟩:Str)=_;have:=vV k.toNat l [];simp only[ab9]at this;exact Z0 Str.mk this
def lJ{a b:Nat}(h1:a<=1000)(h2:b<=1000):a*b<=sizeLine:=Z2 (abo h1 h2) (by decide)
def IY{pins:List (Addr×Obj)}{σ:L2.St}{H:Hp}{s:Shared}{Q:VK}(I:Inv X pins σ H s){l:List Nat}{k:Int}{t u:Tok}(hk:0<=k/\k<=1000/\l.length<=1000)(q:Q (.str (ay (Ev.rep k.toNat l))) H) :
  wpAny (model X.prog X.w) X.A (binaryOp .Mult (.str (ay l) t) (.int k u)) (EP X pins σ Q) X.xe s:=by
 have a:MulOk (ay l) k:=mulOk_of 1000 1000 (by rw[dg];exact hk.2.2) (by exact hk.2.1) (by omega) (by decide) (by decide);refine SB.mul a λb c=>?_;rw[IX hk.1];exact⟨.str _,H,I.tok _,⟨_,rfl⟩,q⟩
def qw:fillsNumberSlot (.type "tuple") "mul" = pure false:=
 PySem.fillsNumberSlot_seq (id:="tuple.__mul__") (r:=some (.builtin "tuple.__rmul__")) PySem.F.slot_tuple_mul.lookup (by decide +kernel) PySem.F.slot_tuple_rmul.lookup (by decide +kernel)
def vW:seqRepeat? (.type "tuple")=pure (some (.builtin "tuple.__mul__")):=by
 unfold seqRepeat?;rw[PySem.seqSlot_of (T:="tuple") (name:="__mul__") (id:="tuple.__mul__") PySem.F.slot_tuple_mul.lookup (by decide +kernel),PySem.seqSlot_of (T:="tuple") (name:="__rmul__") (id:="tuple.__rmul__") PySem.F.slot_tuple_rmul.lookup (by decide +kernel)];rfl
def Au(a:Int)(t:Tok)(l:Addr)(items:Array Value)(n:Nat)(dd:Option Addr)(sl:Array (Option Value)) :
  Meets (Builtin.«int.__rmul__» ⟨[.int a t,.ref l],[]⟩) (λ_ R s=>s.heap.get? l=some { cls:=.type "tuple",dict:=dd,data:=.seq items n,slots:=sl }/\R (.ok (.ret Value.notImplemented)) s):=
 .of_wp λprog w A R s h=>by obtain⟨b,g,d,tk,c⟩:=s;obtain⟨e,h⟩:=h;wp_walk;exact⟨_,rfl,h⟩
def Av(l:Addr)(items:Array Value)(n:Nat)(dd:Option Addr)(sl:Array (Option Value))(k:Int)(u:Tok)(h1:¬ (decide (k < -2 ^ 63) ||decide (k≥2 ^ 63))=true)(h3:(items.isEmpty ||k==1)=true) :
  Meets (Builtin.«tuple.__mul__» ⟨[.ref l,.int k u],[]⟩) (λ_ R s=>s.heap.get? l=some { cls:=.type "tuple",dict:=dd,data:=.seq items n,slots:=sl }/\R (.ok (.ret (.ref l))) s):=
 .of_wp λprog w A R s h=>by obtain⟨b,g,d,tk,c⟩:=s;obtain⟨a,h⟩:=h;have f1:=ab2;wp_walk using aam a;rw[ZS h1];wp_walk using aam a;exact⟨_,rfl,h⟩
def Aw(l:Addr)(items:Array Value)(n:Nat)(dd:Option Addr)(sl:Array (Option Value))(k:Int)(u:Tok)(h1:¬ (decide (k < -2 ^ 63) ||decide (k≥2 ^ 63))=true)(h3:¬ (items.isEmpty ||k==1)=true)(h4:(decide (k<=0) ||items.isEmpty)=true) :
  Meets (Builtin.«tuple.__mul__» ⟨[.ref l,.int k u],[]⟩) (λ_ R s=>s.heap.get? l=some { cls:=.type "tuple",dict:=dd,data:=.seq items n,slots:=sl }/\R (.ok (.ret (Value.ref s.heap.objs.size))) { s with heap:=s.heap.push { cls:=Value.type "tuple",data:=Data.seq #[]},toks:=s.toks }):=
 .of_wp λprog w A R s h=>by obtain⟨b,g,d,tk,c⟩:=s;obtain⟨a,h⟩:=h;have f1:=ab2;wp_walk using aam a;rw[ZS h1];wp_walk using aam a;exact⟨_,rfl,h⟩
def Ax(l:Addr)(items:Array Value)(n:Nat)(dd:Option Addr)(sl:Array (Option Value))(k:Int)(u:Tok)(h1:¬ (decide (k < -2 ^ 63) ||decide (k≥2 ^ 63))=true)(h3:¬ (items.isEmpty ||k==1)=true)(h4:¬ (decide (k<=0) ||items.isEmpty)=true)
  (h5:¬ (items.size*k > (2 ^ 63 - 1) / 8)) (h6:¬ Builtin.Tuple.tupleTooMany (items.size*k)=true) (hsz:(List.foldl (λx1 x2=>x1++x2) #[] (List.replicate k.toNat items)).size<=sizeLine) :
  Meets (Builtin.«tuple.__mul__» ⟨[.ref l,.int k u],[]⟩) (λ_ R s=>s.heap.get? l=some { cls:=.type "tuple",dict:=dd,data:=.seq items n,slots:=sl }/\R (.ok (.ret (Value.ref s.heap.objs.size))) { s with heap:=s.heap.push { cls:=Value.type "tuple",data:=Data.seq (List.foldl (λx1 x2=>x1++x2) #[] (List.replicate k.toNat items))},toks:=s.toks }):=
 .of_wp λprog w A R s h=>by obtain⟨b,g,d,tk,c⟩:=s;obtain⟨a,h⟩:=h;have f1:=ab2;wp_walk using aam a;rw[ZS h1];wp_walk using aam a;rw[ZS h5];wp_walk using aam a;exact⟨_,rfl,h⟩
theorem uv:∀(k:Nat) (l acc:List Value),(List.replicate k l.toArray).foldl (·++·) acc.toArray=(acc++Ev.rep k l).toArray
 |0,l,acc=>by simp[Ev.rep]
 |k+1,l,acc=>by
  rw[ZV,aan];have:acc.toArray++l.toArray=(acc++l).toArray:=by simp
  rw[this,uv k l (acc++l)];simp[Ev.rep,ZV]
def IZ{pins:List (Addr×Obj)}{σ:L2.St}{H:Hp}{s:Shared}{Q:VK}(I:Inv X pins σ H s){p:Addr}{vs:List V}{k:Int}{u:Tok}(hk:0<=k/\k<=1000/\vs.length<=1000)(hp:cU X.K H p vs)
  (q1:Ev.rep k.toNat vs=vs->Q (.ref p) H) (q2:∀p',H p'=none->Q (.ref p') (upd H p' (.tup (Ev.rep k.toNat vs)))) :
  wpAny (model X.prog X.w) X.A (binaryOp .Mult (.ref p) (.int k u)) (EP X pins σ Q) X.xe s:=by
 obtain⟨a,pv,pt,L⟩:=I.tuple hp;obtain⟨⟨cls,g,data,h⟩,d,l,n,r⟩:=id pt;simp only at l r;subst l r;have M:=pv.length;have i:¬ (decide (k < -2 ^ 63) ||decide (k≥2 ^ 63))=true:=by simp;omega
 refine abQ (T:="tuple") (U:="int") (by decide) ⟨_,d,rfl⟩ (λB=>abP B k u) qw PySem.F.fills_int_mul acn vW PySem.F.slot_int_index.lookup
  (aa4 acn (abP s k u) PySem.F.entry_int_rmul (PySem.F.args_int_rmul_2 _ _) (Au k u p a.toArray n g h) ⟨d,rfl,⟨_,d,rfl⟩,?_⟩)
 have x:∀m:Nat,(Ev.rep m a).length=m*a.length:=λm=>pA m a;by_cases c:(a.toArray.isEmpty ||k==1)=true
 .refine aa4 abx ⟨_,d,rfl⟩ abq (abm _ _) (Av p a.toArray n g h k u i c) ⟨d,?_⟩;refine⟨.ref p,H,I,rfl,q1 ?_⟩;rw[aau]at c;rcases c with c|c
  .have:a=[]:=by simpa using c
   subst this;cases pv;simp[Ev.rep]
  .have:k=1:=by simpa using c
   subst this;simp[Ev.rep]
 .have laid:∀m:Nat,m=k.toNat->EP X pins σ Q (.ref s.heap.objs.size) { s with heap:=s.heap.push { cls:=.type "tuple",data:=.seq (Ev.rep m a).toArray }}:=λm y=>by
   subst y;refine⟨.ref s.heap.objs.size,_,I.laid (t':=s.toks) (o:=.tup (Ev.rep k.toNat vs)) (λb N q=>ZK _ q) (ZO _) ?_,rfl,q2 _ (I.hok.fresh (ZO _))⟩;exact⟨by rw[pA];exact lJ (by omega) hk.2.2,_,pv.rep k.toNat,IsTup.new _ _⟩
  by_cases f:(decide (k<=0) ||a.toArray.isEmpty)=true
  .refine aa4 abx ⟨_,d,rfl⟩ abq (abm _ _) (Aw p a.toArray n g h k u i c f) ⟨d,?_⟩;have j:k=0:=by
    rw[aau]at f c;rcases f with f|f
    .have:k<=0:=aag f;omega
    .exact absurd (.inl f) c
   have:=laid 0 (by rw[j];rfl);exact this
  .have y:a.toArray.size*k.toNat<=1000000:=by
    rw[ZL];exact abo (by omega:a.length<=1000) (by omega:k.toNat<=1000)
   have C:(a.toArray.size:Int)*k<=1000000:=by
    have e:(a.toArray.size:Int)*k=((a.toArray.size*k.toNat:Nat):Int):=by
     rw[Int.natCast_mul,Int.toNat_of_nonneg hk.1]
    rw[e];omega
   have z:List.foldl (λG J=>G++J) #[] (List.replicate k.toNat a.toArray)=(Ev.rep k.toNat a).toArray:=by
    have:=uv k.toNat a [];simpa using this
   refine aa4 abx ⟨_,d,rfl⟩ abq (abm _ _) (Ax p a.toArray n g h k u i c f (by omega) ?_ ?_) ⟨d,?_⟩
   .unfold Builtin.Tuple.tupleTooMany;simp only[aaJ];have:(sizeLine:Int)=16777216:=by rw[aaG];rfl
    omega
   .rw[z];simp only[ZL];rw[pA];exact lJ (by omega) (by omega)
   .rw[z];exact laid _ rfl
def Mn:eF X (binaryOp .Mult) (iZ X.K (Ev.bP .mul)):=by
 intro f s σ H x y v u Q I rx ry q;obtain⟨r,h,a,b,d,W,g,j,C,e,q⟩:=q;cases b with
 |int k=>
  have s2:=C.shape;simp only[cK]at s2;subst s2;cases a with
  |int i=>
   delta Ev.bP at e;dsimp only at e
   split at e
   .rename_i c;cases e;refine K6 f s σ H x _ v u Q I rx ry ⟨i,k,j,rfl,?_,q.here rfl g⟩;unfold Ev.cC at c;simp only[aau,ZJ,aaJ]at c;exact c
   .cases e
  |str l=>
   delta Ev.bP at e;dsimp only at e
   split at e
   .rename_i c;cases e;simp only[RV]at j;obtain⟨rfl,Y⟩:=j;obtain⟨t,rfl⟩:=rx;obtain⟨F,rfl⟩:=ry;exact IY I c (q.here ⟨rfl,by rw[pA];exact lJ (by omega) c.2.2⟩ g)
   .cases e
  |tup ds=>
   delta Ev.bP at e;dsimp only at e
   split at e
   .rename_i c;cases e;obtain⟨p,o,rfl,z,w⟩:=j.shape;cases rx;obtain⟨F,rfl⟩:=ry;refine IZ I ⟨c.1,c.2.1,by rw[w.length];exact c.2.2⟩ z (λV6=>q.here ⟨p,o,rfl,z,?_⟩ g) λG J=>q.tup (w.rep k.toNat) g J;have:=w.rep k.toNat;rw[V6]at this;exact this
   .cases e
  |ref i=>
   delta Ev.bP at e;dsimp only at e
   split at e
   .rename_i ds L;split at e
    .rename_i c;obtain⟨p,rfl,z⟩:=j.shape;obtain⟨G,A,o,M,B⟩:=g.ob _ _ L;rw[z]at A;cases A;obtain⟨N,P⟩:=q.lst e (B.rep k.toNat) g;exact Ll f s σ H (.ref p) _ v u Q I rx ry ⟨p,k,o,rfl,rfl,M,by omega,by omega,lJ (by rw[B.length];exact c.2.2) (by omega),P⟩
    .cases e
   .cases e
  |_=>cases e
 |_=>cases a<;>cases e
end
section
variable{X:Cx}
theorem yJ{K:PySem.W.Frag}{H:Hp}{r:List Addr}:∀{ds:List D}{is:List Int}{vs:List V}{us:List Value},Ev.intsOf ds=some is->aG K H r ds vs->Vals vs us->IntsAre us is
 |[],bs,vs,us,e,w,p=>by
  cases e;simp only[aG]at w;subst w;cases p;exact .nil
 |d :: ds,bs,vs,us,e,w,p=>by
  cases d with
  |int b=>
   simp only[Ev.intsOf,Vw]at e;obtain⟨a,c,rfl⟩:=e;simp only[aG,RV]at w;obtain⟨v,i,rfl,rfl,f⟩:=w;cases p with
   |cons g h=>
    obtain⟨t,rfl⟩:=g;exact .cons _ _ (yJ c f h)
  |_=>cases e
theorem yK{K:PySem.W.Frag}{H:Hp}{r:List Addr}:∀{ds:List D}{ss:List (List Nat)}{vs:List V}{us:List Value},Ev.strsOf ds=some ss->aG K H r ds vs->Vals vs us->StrsAre us (ss.map ay)/\∀l∈ss,l.length<=sizeLine
 |[],bs,vs,us,e,w,p=>by
  cases e;simp only[aG]at w;subst w;cases p;exact⟨.nil,λl h=>nomatch h⟩
 |d :: ds,bs,vs,us,e,w,p=>by
  cases d with
  |str b=>
   simp only[Ev.strsOf,Vw]at e;obtain⟨a,c,rfl⟩:=e;simp only[aG,RV]at w;obtain⟨v,x,rfl,⟨rfl,f⟩,g⟩:=w;cases p with
   |cons i j=>
    obtain⟨t,rfl⟩:=i;obtain⟨k,o⟩:=yK c g j;refine⟨.cons _ _ k,λl q=>?_⟩;rcases List.mem_cons.mp q with z|z
    .subst z;exact f
    .exact o l z
  |_=>cases e
variable{G:Tb}{n:Nat}{sc:Scope}{N:List Str}{df:Bool}
def Mp (g:Good G n sc N df X):gx X (.builtin "sum") (yu X.K (Ev.dS .sum)):=by
 intro j s σ H xs us Q I r q;obtain⟨Y,h,A,d,Z,k,l,e,q⟩:=q
 match A,e with
 |[.ref m],e=>
  obtain⟨e,rfl⟩:=Ev.aI e;simp only[Vw,ZQ]at e;obtain⟨c,⟨ds,B,C⟩,rfl⟩:=e;simp only[aG,RV]at l;obtain⟨v,w,rfl,⟨p,rfl,z⟩,rfl⟩:=l;obtain⟨u,rfl,F⟩:=vals1 r;cases F;obtain⟨p',vs,o,J,w⟩:=k.read B;rw[z]at o;cases o;obtain⟨f,pv,L,_⟩:=I.list J;have x:=yJ C w pv;obtain⟨i,a⟩:=(x.allInts).items;have M:s.heap.IsList p (intItems i):=by rw[<-a];exact L.isList
  refine sum_intListG (I.ok.hd g.calm) M λP tk t' W=>?_;have b:preSum (numAt i) i.size=c.sum:=by
   have y:numsOf f.toArray.toList=c:=by rw[show f.toArray.toList=f from rfl];exact x.numsOf
   rw[a,nums_intItems]at y;rw[preSum_eq,aaj (by simp),y]
  rw[b];exact⟨.int c.sum,H,I.kept W,⟨_,rfl⟩,q.here rfl k⟩
def Mq:gx X (.builtin "len") (yu X.K (Ev.dS .len)):=by
 intro a s σ H xs us Q I r q;obtain⟨y,h,i,d,A,c,b,e,q⟩:=q
 match i,e with
 |[.str l],e=>
  delta Ev.dS at e;dsimp only at e
  split at e
  .cases e;simp only[aG,RV]at b;obtain⟨v,w,rfl,⟨rfl,j⟩,rfl⟩:=b;refine vC a s σ H _ us Q I r ⟨_,rfl,by rw[dg];exact j,?_⟩;rw[dg];exact q.here rfl c
  .cases e
 |[.tup ds],e=>
  cases e;simp only[aG,RV]at b;obtain⟨v,w,rfl,⟨p,f,rfl,z,k⟩,rfl⟩:=b;refine kE a s σ H _ us Q I r ⟨p,f,rfl,.inr z,?_⟩;rw[k.length];exact q.here rfl c
 |[.ref m],e=>
  obtain⟨e,rfl⟩:=Ev.aI e;simp only[Vw]at e;obtain⟨ds,o,rfl⟩:=e;simp only[aG,RV]at b;obtain⟨v,w,rfl,⟨p,rfl,z⟩,rfl⟩:=b;obtain⟨B,f,g,x,w⟩:=c.read o;rw[z]at g;cases g;refine kE a s σ H _ us Q I r ⟨p,f,rfl,.inl x,?_⟩;rw[w.length];exact q.here rfl c
def Mr (g:Good G n sc N df X):gx X (.builtin "min") (yu X.K (Ev.dS .min)):=by
 intro a s σ H xs us Q I r q;obtain⟨k,h,c,d,l,f,b,e,q⟩:=q
 match c,e with
 |[.int i,.int j],e=>
  cases e;simp only[aG,RV]at b;obtain⟨v,w,rfl,rfl,o,p,rfl,rfl,rfl⟩:=b;exact Bx g.calm a s σ H _ us Q I r ⟨i,j,rfl,q.here rfl f⟩
def Cf:t9 X "list.append" (vG X.K (Ev.fL .append)):=by
 intro c s σ H x xs v us Q I rx rs q;obtain⟨r,h,a,C,d,L,i,F,j,e,q⟩:=q;cases a with
 |ref m=>
  match C,e with
  |[b],e=>
   delta Ev.fL at e;dsimp only at e
   split at e
   .rename_i ds k;split at e
    .rename_i l;cases e;rw[gQ]at l;obtain⟨p,rfl,z⟩:=F.shape;simp only[aG]at j;obtain⟨y,w,rfl,J,rfl⟩:=j;obtain⟨M,o,A,g,B⟩:=i.ob _ _ k;rw[z]at o;cases o;refine lD c s σ H _ _ v us Q I rx rs ⟨p,A,y,rfl,rfl,g,by rw[B.length];exact l,?_⟩;have f:=Fm.write (K:=X.K) (ws:=A++[y]) g (ZM z);exact q _ _ r rfl (i.write k z g (B.append (.cons J .nil))) f
    .cases e
   .cases e
  |[],e=>cases e
  |_ :: _ :: _,e=>cases e
 |_=>cases e
def Cg:t9 X "list.extend" (vG X.K (Ev.fL .extend)):=by
 intro b s σ H x xs v us Q I rx rs q;obtain⟨r,h,a,J,d,h',c,L,i,e,q⟩:=q;cases a with
 |ref m=>
  match J,e with
  |[.ref k],e=>
   delta Ev.fL at e;dsimp only at e
   split at e
   .rename_i ds es j M;split at e
    .rename_i l;cases e;rw[gQ]at l;obtain⟨p,rfl,z⟩:=L.shape;simp only[aG,RV]at i;obtain⟨y,w,rfl,⟨P,rfl,W⟩,rfl⟩:=i;obtain⟨p',o,A,g,B⟩:=c.ob _ _ j;rw[z]at o;cases o;obtain⟨Y,C,ws,Z,F⟩:=c.ob _ _ M;rw[W]at C;cases C;refine BG b s σ H _ _ v us Q I rx rs ⟨p,P,A,ws,rfl,rfl,g,Z,by rw[B.length,F.length];exact l,?_⟩;have f:=Fm.write (K:=X.K) (ws:=A++ws) g (ZM z);exact q _ _ r rfl (c.write j z g (B.append F)) f
    .cases e
   .cases e
 |_=>cases e
def Ms:t9 X "list.pop" (vG X.K (Ev.fL .pop)):=by
 intro b s σ H x xs v us Q I rx rs q;obtain⟨r,h,a,A,d,P,j,B,k,e,q⟩:=q;cases a with
 |ref m=>
  match A,e with
  |[],e=>
   delta Ev.fL at e;dsimp only at e
   split at e
   .rename_i ds l;split at e
    .rename_i y C;cases e;obtain⟨p,rfl,z⟩:=B.shape;simp only[aG]at k;subst k;obtain⟨W,o,g,i,c⟩:=j.ob _ _ l;rw[z]at o;cases o;obtain⟨F,J,L⟩:=c.get C;refine BH b s σ H _ _ v us Q I rx rs ⟨p,g,F,rfl,rfl,i,by rw[c.length];exact J,?_⟩;have f:=Fm.write (K:=X.K) (ws:=g.dropLast) i (ZM z);have M:aG X.K H r ds.dropLast g.dropLast:=by
      rw[aaD,aaD,c.length];exact c.take _
     exact q _ _ r (L.mono f) (j.write l z i M) f
    .cases e
   .cases e
  |_ :: _,e=>cases e
 |_=>cases e
theorem qx(sep:List Nat):∀ss:List (List Nat),Str.join (ay sep) (ss.map ay)=ay (Ev.cR sep ss)
 |[]=>rfl
 |[s]=>rfl
 |s :: t :: r=>by
  have a:=qx sep (t :: r);show ay s++ay sep++Str.join (ay sep) ((t :: r).map ay)=_;rw[a,sY,sY];rfl
def join_eq(sep:List Nat)(ss:List (List Nat)):Txt.join (ay sep) (ss.map ay)=ay (Ev.cR sep ss):=by
 rw[<-qx];exact PySem.StrLaws.glued_eq_join _ _
def Ja:t9 X "str.join" (vG X.K (Ev.fL .join)):=by
 intro i s σ H x xs v us Q I rx rs q;obtain⟨r,h,a,A,d,Y,j,o,p,e,q⟩:=q;cases a with
 |str b=>
  match A,e with
  |[.ref k],e=>
   delta Ev.fL at e;dsimp only at e
   split at e
   .rename_i g f;split at e
    .rename_i B;cases e;simp only[ZQ]at f;obtain⟨ds,f,C⟩:=f;simp only[RV]at o;obtain⟨rfl,Z⟩:=o;obtain⟨t,rfl⟩:=rx;simp only[aG,RV]at p;obtain⟨y,w,rfl,⟨p2,rfl,F⟩,rfl⟩:=p;obtain⟨u,rfl,J⟩:=vals1 rs;cases J;obtain⟨p',vs,z,L,w⟩:=j.read f;rw[F]at z;cases z;obtain⟨zs,pv,M,_⟩:=I.list L;obtain⟨P,g2⟩:=yK C w pv;have c:((g.map ay).map (·.length)).sum+(g.map ay).length*(ay b).length<=16777216:=by
      rw[abD,aaa,dg];have:(λx:Str=>x.length) ∘ ay=λl:List Nat=>l.length:=funext λl=>dg l;rw[this];exact B
     refine join_list M.isList P c λt' k'=>?_;rw[join_eq];refine⟨.str _,H,I.tok _,⟨_,rfl⟩,q.here ⟨rfl,?_⟩ j⟩;have W:=PySem.StrLaws.join_length_le (ay b) (g.map ay);rw[qx,dg]at W;have:sizeLine=16777216:=aaG;omega
    .cases e
   .cases e
 |_=>cases e
end
section
variable{X:Cx}{G:Tb}{n:Nat}{sc:Scope}{N:List Str}{df:Bool}{m:List Nat}{a c:E}{xa:Expr}{pos:Pos}
theorem aG.ofStr{K:PySem.W.Frag}{H:Hp}{r:List Addr}:∀(l:List Nat),aG K H r (l.map λc=>.str [c]) (l.map λc=>.str (ay [c]))
 |[]=>.nil
 |c :: l=>.cons ⟨rfl,by show 1<=sizeLine;decide⟩ (aG.ofStr l)
def Ay{x:List Nat}{acc:Array Value}(h:ItemsOf (SignAt (ay x)) acc (ay x).cps.size):Vals (x.map λc=>.str (ay [c])) acc.toList:=by
 obtain⟨i,o⟩:=h;have b:acc.toList.length=x.length:=by simpa[ay]using i
 have go:∀(y:List Nat) (l:List Value) (k:Nat),l.length=y.length->(∀j v,l[j]?=some v->SignAt (ay x) (k+j) v)->(∀j,y[j]?=x[k+j]?)->Vals (y.map λc=>.str (ay [c])) l:=by
  intro y;induction y with
  |nil=>intro l k b _ _;cases l with|nil=>exact .nil|cons _ _=>simp at b
  |cons c y p=>
   intro l k b d g;cases l with
   |nil=>simp at b
   |cons v l=>
    refine .cons ?_ (p l (k+1) (by simpa using b) (λj w q=>?_) λj=>?_)
    .obtain⟨r,u,e,rfl⟩:=d 0 v (by simp);have:=g 0;simp at this;have f:x[k]?=some r:=by simpa[ay]using e
     rw[f]at this;cases this;exact⟨u,rfl⟩
    .have:=d (j+1) w (by simpa using q);rw[show k+1+j=k+(j+1)by omega];exact this
    .have:=g (j+1);simp at this;rw[this]
     congr 1
     omega
 exact go x acc.toList 0 b (λj v d=>by simpa using o j v (by simpa using d)) λj=>by simp
def Jb (g:Good G n sc N df X):gx X (.type "list") (λxs H Q=>∃r h d src x,HR X.K H r h/\RV X.K H r d x/\xs=[x]/\Ev.fP h d=some src/\src.1.length<=sizeLine/\∀vs,aG X.K H r src.1 vs->∀l,H l=none->Q (.ref l) (upd H l (.lst vs))):=by
 intro b s σ H xs us Q I rv q;obtain⟨r,h,d,src,x,C,k,rfl,e,W,q⟩:=q;cases d with
 |tup ds=>
  cases e;obtain⟨p,vs,rfl,z,w⟩:=k.shape;exact iG b s σ H _ us Q I rv ⟨p,vs,rfl,.inr z,q vs w⟩
 |ref i=>
  simp only[Ev.fP,Vw]at e;obtain⟨ds,F,rfl⟩:=e;obtain⟨p,rfl,z⟩:=k.shape;obtain⟨Y,vs,A,J,w⟩:=C.read F;rw[z]at A;cases A;exact iG b s σ H _ us Q I rv ⟨p,vs,rfl,.inl J,q vs w⟩
 |str l=>
  cases e;simp only[RV]at k;obtain⟨rfl,B⟩:=k;obtain⟨u,rfl,L⟩:=vals1 rv;obtain⟨t,rfl⟩:=L;refine call_list_str (I.ok.hd g.calm) (ay l) t (λZ tk f M P y j=>?_) (by simpa[ay]using B);refine⟨.ref s.heap.objs.size,_,I.laid (t':=tk) (o:=.lst (l.map λc=>.str (ay [c]))) P (ZO _) ?_,rfl,q _ (aG.ofStr l) _ (I.hok.fresh (ZO _))⟩;exact⟨by simpa using B,f.toList,M,Ay j,by simpa using y⟩
 |_=>cases e
def Mt {p:Pos}(ha:JE G n sc N df m a xa) (h1:("list" : Str)∈G.bl:=by decide +kernel) (Ci:sc.names.lookup ("list" : Str)=some .globalImplicit:=by rfl)
  (hst:∀env:Env,starEach [xa] env=[(false,eval xa env)]:=by intro _;rfl):JE G n sc N df m (.gP (.seq a)) (.Call (.Name "list" p) [xa] [] pos):=λX g=>by
 refine PE.of (ly (Jb g) (g.gl Ci) (g.bl _ h1) (by decide +kernel) (gy (ha X g) gk (hst _)) (by decide) (by decide) (hst _) rfl) λs H Q q=>?_;obtain⟨r,i,h,d,F,j,k,e,q⟩:=q;simp only[Ev.ev,Ev.dj]at e;obtain⟨src,I,b,e⟩:=Ev.ah e;obtain⟨x,J,o,b⟩:=Ev.ah b;obtain⟨b,rfl⟩:=Ev.aI b;refine⟨r,i,h,x,_,j,k,o,λv H1 y A f f1=>?_⟩;have B:src.1.length<=sizeLine:=by
  unfold Ev.alloc at e;split at e
  .rename_i z;rw[<-gQ];exact z
  .cases e
 exact⟨y,_,x,src,v,f,A,rfl,b,B,λK w l C=>((q.later f1).lst e w f).2 l C⟩
end
section
variable{a:E}
theorem Vals.reverse{vs:List V}{us:List Value}(w:Vals vs us):Vals vs.reverse us.reverse:=by
 induction w with
 |nil=>exact .nil
 |cons a _ b=>rw[Z3,Z3];exact b.append (.cons a .nil)
end
section
variable{G:Tb}{n:Nat}{sc:Scope}{N:List Str}{df:Bool}{m:List Nat}{a c:E}{xa:Expr}{pos:Pos}
def Ej (g:Good G n sc N df X):gx X (.type "tuple") (λxs H Q=>∃r h d x d' h',HR X.K H r h/\RV X.K H r d x/\xs=[x]/\Ev.sO d h=.ok d' h'/\Res X.K r H h' d' Q):=by
 intro b s σ H xs us Q I rv q;obtain⟨r,h,d,x,d',h',f,j,rfl,e,q⟩:=q;cases d with
 |tup ds=>
  cases e;have y:=j;obtain⟨p,k,rfl,z,w⟩:=j.shape;exact nN b s σ H _ us Q I rv ⟨p,k,rfl,.inr ⟨z,q.here y f⟩⟩
 |ref i=>
  simp only[Ev.sO]at e;split at e
  .rename_i ds A;split at e
   .cases e;obtain⟨p,rfl,z⟩:=j.shape;obtain⟨F,k,o,B,w⟩:=f.read A;rw[z]at o;cases o;exact nN b s σ H _ us Q I rv ⟨p,k,rfl,.inl ⟨B,λl C=>q.tup w f C⟩⟩
   .cases e
  .cases e
 |_=>cases e
def Mu {p:Pos}(ha:JE G n sc N df m a xa) (h1:("tuple" : Str)∈G.bl:=by decide +kernel) (Ci:sc.names.lookup ("tuple" : Str)=some .globalImplicit:=by rfl)
  (hst:∀env:Env,starEach [xa] env=[(false,eval xa env)]:=by intro _;rfl):JE G n sc N df m (.iY a) (.Call (.Name "tuple" p) [xa] [] pos):=λX g=>by
 refine PE.of (ly (Ej g) (g.gl Ci) (g.bl _ h1) (by decide +kernel) (gy (ha X g) gk (hst _)) (by decide) (by decide) (hst _) rfl) λs H Q q=>?_;obtain⟨r,f,h,d,i,j,k,e,q⟩:=q;simp only[Ev.ev]at e;obtain⟨x,l,o,e⟩:=Ev.ah e;refine⟨r,f,h,x,_,j,k,o,λv H1 y z b f1=>?_⟩;exact⟨y,l,x,v,d,i,b,z,rfl,e,q.later f1⟩
def Mv{c:Nat}{st:Stmt}:JS G n sc N df m (.fC c) st:=λX g=>PS.of DK λQ s H q=>by
 obtain⟨r,b,h,fl,d,f,i,j,e,q⟩:=q;simp only[Ev.fj]at e;cases e
end
end Sm
namespace Sm
open PySem PySem.Spec PyProof.Rows L2
open Ev (D O Hh Fr R aQ E Es Eo T S Ss Fl Src bS bM TY BI ME)
noncomputable def Gq(hi:Int)(n:Nat):L2.It:=⟨λi _=>i<n,λi H x H'=>H'=H/\x=.int (hi - i),λi _=>n<=i⟩
def xZ{P:Program}{w:World}{K:PySem.W.Frag}{tg:Expr}(it:Addr)(lo:Int)(n:Nat):Turn P w K tg (Gq lo n) [it] it (λi h=>IsRangeIter h it (lo+(i:Nat)*(-1)) ((n:Int) - (i:Nat)) (-1)) where
 mem:=by simp
 obj:=λi h a b d=>by
  have e:b=it:=by simpa using d
  subst e;exact⟨_,a,λv z=>by
   have r:Data.fields _=Data.cell v:=z;cases r⟩
 keep:=λi h g a k=>k it (by simp) _ a
 item:=by
  intro X j l p q i c s σ H E I hf a hg;subst j l p;obtain⟨f0,f1,f2,f3,f4,f5⟩:=hf it (by simp);have W:=Walks.range (prog:=X.prog) (w:=X.w) (I.ok.hd q) it lo (-1) n;refine W.item i s _ _ hg a λv g tk x f y=>?_;obtain⟨t,rfl⟩:=x;have I1:Inv X c σ H { s with heap:=g,toks:=tk }:=I.turned (λb o d e=>y b o (by simpa using d) e) f0 f1 f3 f4 f5;refine⟨_,rfl,uQ (s:={ s with heap:=g,toks:=tk }) (n:="range_iterator") f rfl rfl (by decide) ⟨.int (lo - i),H,I1,⟨t,?_⟩,⟨rfl,rfl⟩,f,λb d=>(hf b d).1⟩⟩;rw[show lo+(i:Int) * -1=lo - i by omega]
 done:=by
  intro X j l p q i c s σ H E I hf a hg;subst j l p;obtain⟨f0,f1,f2,f3,f4,f5⟩:=hf it (by simp);exact wpAny_pyNext_range_end (I.ok.hd q) a (by have:n<=i:=hg;omega) λg A=>⟨rfl,I.turned (t':=s.toks) (λb o d e=>A b o d e) f0 f1 f3 f4 f5⟩
 self:=λ_ _ _ _ _ a h=>wpAny_pyIter_rangeiter a h
section
variable{X:Cx}{tg:Expr}
def Cj{pins:List (Addr×Obj)}{σ:L2.St}{H:Hp}{s:Shared}{R:L2.It->Hp->Prop}{E:Value->Shared->Prop}{lo hi:Int}{t u v:Tok}{tk:Nat}(I:Inv X pins σ H s)(h1:-(2 ^ 62)<=lo)(h2:lo<2 ^ 62)(h3:-(2 ^ 62)<=hi)(h4:hi<2 ^ 62)
  (q:R (Gq lo (lo - hi).toNat) H):wpAny (model X.prog X.w) X.A (pyIter (.ref s.heap.objs.size)) (KW X pins σ tg R) E { s with heap:=s.heap.push { cls:=.type "range",data:=.fields #[.int lo t,.int hi u,.int (-1) v]},toks:=tk }:=by
 refine wpAny_pyIter_range (IsRange.new ..) (PySem.W.small_down h1 h2 h3 h4) ?_;have I1:Inv X pins σ H { s with heap:=s.heap.push { cls:=.type "range",data:=.fields #[.int lo t,.int hi u,.int (-1) v]},toks:=tk }:=I.kept λb o e=>ZK _ e;refine⟨(s.heap.push { cls:=.type "range",data:=.fields #[.int lo t,.int hi u,.int (-1) v]}).objs.size,[(s.heap.push { cls:=.type "range",data:=.fields #[.int lo t,.int hi u,.int (-1) v]}).objs.size],_,_,H,rfl,
  I1.kept (t':=tk) λb o e=>ZK _ e,xZ _ lo (lo - hi).toNat,?_,λb a=>?_,q⟩
 .have c:lo+((0:Nat):Int)*(-1)=lo:=by simp
  have d:(((lo - hi).toNat:Nat):Int) - ((0:Nat):Int)=Builtin.Range.rangeSize lo hi (-1):=by rw[PySem.W.rangeSize_downNat];simp
  show IsRangeIter _ _ (lo+((0:Nat):Int)*(-1)) ((((lo - hi).toNat:Nat):Int) - ((0:Nat):Int)) (-1);rw[c,d];exact Z1 _ rfl
 .have e:b=(s.heap.push { cls:=.type "range",data:=.fields #[.int lo t,.int hi u,.int (-1) v]}).objs.size:=by simpa using a
  subst e;exact I1.zS (ZO _) (I1.hok.fresh (ZO _))
noncomputable def QT(ta:TA):TI:=λσ H R=>ta σ H λa H1=>∃i j:Int,a=[.int i,.int j,.int (-1)]/\(-(2 ^ 62)<=i/\i<2 ^ 62/\-(2 ^ 62)<=j/\j<2 ^ 62)/\R (Gq i (i - j).toNat) H1
def Ck {a b c:Expr}{ta:TA}{p pos:Pos}(hg:Gl X "range") (hm:X.mg "range" = none) (ha:PA X [a,b,c] ta) (hs:starEach [a,b,c] X.env=(false,eval a X.env) :: starEach [b,c] X.env) (hs2:(backTo pos (starEach [b,c] X.env)).any (·.1)=false) :
  PI X tg (.Call (.Name "range" p) [a,b,c] [] pos) (QT ta):=by
 intro d s σ H R I h;refine Call_ (kC I hg hm boot_range (aao (bH (ha pos d s σ H _ I h) λB s1 ⟨C,H1,I1,l,g⟩=>?_) hs hs2));obtain⟨i,j,e,⟨g,o,x,y⟩,q⟩:=g;subst e;cases l with
 |cons r f=>
  cases f with
  |cons z f=>
   cases f with
   |cons k f=>
    cases f;obtain⟨t,rfl⟩:=r;obtain⟨F,rfl⟩:=z;obtain⟨A,rfl⟩:=k;exact call_range_3 (by decide) (Cj I1 g o x y q) (.inl (acf (by decide)))
end
def Jc{K:PySem.W.Frag}{r:List Addr}{H:Hp}(lo:Int)(k:Nat):qu K r H (Ev.eL lo k,[]) (Gq lo k):=λi H1 c l a f1 o=>by
 refine⟨λd e=>?_,λf=>?_⟩
 .simp only[Ev.eL,Z7]at e;cases e2:(List.range k)[i]? with
  |none=>rw[e2]at e;cases e
  |some j=>
   rw[e2]at e;cases e;have b:i<k:=by simpa using (List.getElem?_eq_some_iff.mp e2).1
   have g:j=i:=by
    rw[aaq b]at e2;exact(Vb e2).symm
   subst g;refine⟨b,λx H2 y=>?_⟩;obtain⟨rfl,rfl⟩:=y;exact⟨c,rfl,a,.refl⟩
 .have:(Ev.eL lo k).length=k:=by simp[Ev.eL]
  show k<=i;have h:(Ev.eL lo k).length<=i:=f;omega
def Jd{a b c:D}{src:Src}(e:Ev.dw [a,b,c]=some src):∃i j:Int,a=.int i/\b=.int j/\c=.int (-1)/\(-(2 ^ 62)<=i/\i<2 ^ 62/\-(2 ^ 62)<=j/\j<2 ^ 62)/\src=(Ev.eL i (i - j).toNat,[]):=by
 cases a with
 |int i=>cases b with
  |int j=>cases c with
   |int k=>
    have f:(if k = -1/\-(2 ^ 62)<=i/\i<2 ^ 62/\-(2 ^ 62)<=j/\j<2 ^ 62 then some (Ev.eL i (i - j).toNat,([]:List (Nat×List D)))else none)=some src:=e;by_cases d:k = -1/\-(2 ^ 62)<=i/\i<2 ^ 62/\-(2 ^ 62)<=j/\j<2 ^ 62
    .rw[xC d]at f;obtain⟨rfl,d⟩:=d;cases f;exact⟨i,j,rfl,rfl,rfl,d,rfl⟩
    .rw[ZS d]at f;cases f
   |_=>cases (show none=some src from e)
  |_=>cases (show none=some src from e)
 |_=>cases (show none=some src from e)
section
variable{G:Tb}{n:Nat}{sc:Scope}{N:List Str}{df:Bool}{m:List Nat}{xa xb xc tg:Expr}{pos:Pos}
def Je {e1 e2 e3:E}{p:Pos}(hs:JA G n sc N df m (.cons e1 (.cons e2 (.cons e3 .nil))) [xa,xb,xc]) (hg:sc.names.lookup ("range" : Str)=some .globalImplicit:=by rfl) (hb:("range" : Str)∈G.bl:=by decide +kernel)
  (hst:∀env:Env,starEach [xa,xb,xc] env=(false,eval xa env) :: starEach [xb,xc] env:=by intro _;rfl) (D7:∀env:Env,(backTo pos (starEach [xb,xc] env)).any (·.1)=false:=by intro _;rfl) :
  JI G n sc N df m (.fh (.cons e1 (.cons e2 (.cons e3 .nil)))) tg (.Call (.Name "range" p) [xa,xb,xc] [] pos):=λX g=>
 PI.of (Ck (g.gl hg) (g.bl _ hb) (hs X g) (hst _) (D7 _)) λs H Rr q=>by
  obtain⟨r,l,h,src,I,o,x,e,q⟩:=q;simp only[Ev.dj]at e;obtain⟨ds,J,e1,e⟩:=Ev.ah e;obtain⟨y,rfl⟩:=Ev.aI e;refine⟨r,l,h,ds,_,o,x,e1,λK H1 z k f f1=>?_⟩;have A:ds.length=3:=by
   simp only[Ev.bq]at e1;obtain⟨d,_,_,e1⟩:=Ev.ah e1;obtain⟨RL,_,e2,e1⟩:=Ev.ah e1;obtain⟨L,_,_,e2⟩:=Ev.ah e2;obtain⟨XX,_,e3,e2⟩:=Ev.ah e2;obtain⟨M,_,_,e3⟩:=Ev.ah e3;simp only[Ev.ak]at e3;cases e3;cases e2;cases e1;rfl
  obtain⟨a,b,c,rfl⟩:∃a b c,ds=[a,b,c]:=by
   match ds,A with
   |[a,b,c],_=>exact⟨a,b,c,rfl⟩
  obtain⟨i,j,rfl,rfl,rfl,B,rfl⟩:=Jd y;simp only[aG,RV]at k;obtain⟨v,w,rfl,rfl,P,Q,rfl,rfl,C,F,rfl,rfl,rfl⟩:=k;exact⟨_,_,rfl,B,q _ H1 z f f1 (Jc _ _)⟩
end
end Sm
namespace Sm
open PySem PySem.Spec PyProof.Rows L2 PySem.SeqAt
open Ev (D O Hh Fr R aQ E Es Eo T S Ss Fl Src bS bM TY BI ME)
end Sm
namespace Rv
open PySem PyProof.Rows
def oH:Manifest.owners.lookup (String.ofList ['d','e','s','r','e','v','e','r'].reverse)=some Manifest.sig_reversed:=by kernel_rfl
def slot_next:Slot "reversed" "__next__" "reversed.__next__" :=
 .of (owner:="reversed") (n:="__next__") (by rw[aa5,aaC];kernel_rfl) (by decide +kernel) (by decide +kernel) (by decide +kernel)
  (by first|exact .inl (by decide +kernel)|exact .inr (by decide +kernel)) (by rw[aa9];kernel_rfl)
def entry_next:entryFor table "reversed.__next__" = some Builtin.«reversed.__next__»:=entryFor_of_tree (by kernel_rfl)
def args_next (a:Value):argsOk "reversed.__next__" ⟨[a],[]⟩:=by
 unfold argsOk;rw[signature?_of (id:="reversed.__next__") (n:=['_','_','t','x','e','n','_','_']) (o:=['d','e','s','r','e','v','e','r']) (by kernel_rfl) oH];kernel_rfl
def uw:Slot "reversed" "__iter__" "reversed.__iter__" :=
 .of (owner:="reversed") (n:="__iter__") (by rw[aa5,aaC];kernel_rfl) (by decide +kernel) (by decide +kernel) (by decide +kernel)
  (by first|exact .inl (by decide +kernel)|exact .inr (by decide +kernel)) (by rw[aa9];kernel_rfl)
def Cm (a:Value):argsOk "reversed.__iter__" ⟨[a],[]⟩:=by
 unfold argsOk;rw[signature?_of (id:="reversed.__iter__") (n:=['_','_','r','e','t','i','_','_']) (o:=['d','e','s','r','e','v','e','r']) (by kernel_rfl) oH];kernel_rfl
def Az:entryFor table "reversed.__iter__" = some Builtin.«dict_keyiterator.__iter__»:=
 entryFor_alias (id':="dict_keyiterator.__iter__") (by kernel_rfl) (by first|rfl|decide +kernel | (unfold String.splitOn;simp +decide [String.splitOnAux])) (by decide +kernel) (by kernel_rfl)
def oJ:Slot "reversed" "__length_hint__" "reversed.__length_hint__" :=
 .of (owner:="reversed") (n:="__length_hint__") (by rw[aa5,aaC];kernel_rfl) (by decide +kernel) (by decide +kernel) (by decide +kernel)
  (by first|exact .inl (by decide +kernel)|exact .inr (by decide +kernel)) (by rw[aa9];kernel_rfl)
def AA:entryFor table "reversed.__length_hint__" = some Builtin.«reversed.__length_hint__»:=entryFor_of_tree (by kernel_rfl)
def Cn (a:Value):argsOk "reversed.__length_hint__" ⟨[a],[]⟩:=by
 unfold argsOk;rw[signature?_of (id:="reversed.__length_hint__") (n:=['_','_','t','n','i','h','_','h','t','g','n','e','l','_','_']) (o:=['d','e','s','r','e','v','e','r']) (by kernel_rfl) oH];kernel_rfl
def Mw:typeLookup (.type "reversed") "__len__" = pure none:=by rw[aa5,aaC];kernel_rfl
def Mx:typeLookup (.type "tuple") "__reversed__" = pure none:=by rw[aa5,aaC];kernel_rfl
section
variable{prog:Program}{w:World}{A:Around}{E:Value->Shared->Prop}{s:Shared}
def Co:Slot "reversed" "__init__" "object.__init__" :=
 .of (owner:="object") (n:="__init__") (by rw[aa5,aaC];kernel_rfl) (by decide +kernel) (by decide +kernel) (by decide +kernel)
  (by first|exact .inl (by decide +kernel)|exact .inr (by decide +kernel)) (by rw[aa9];kernel_rfl)
def called:TypeCalled "reversed" "reversed.__new__" "object.__init__" :=
 ⟨by decide +kernel,by decide +kernel,⟨_,_,F.mro_reversed⟩,F.made_reversed,by decide +kernel,F.sub_reversed_self,Co⟩
def gI (h:Heap) (a t:Addr) (i:Int):Prop:=∃o,h.get? a=some o/\o.cls=.type "reversed" /\o.data=.fields #[.ref t,rawInt i]
def gI.typeIs {a l:Addr}{i:Int}(x:gI s.heap a l i):s.TypeIs (.ref a) "reversed" :=let ⟨o,ho,hc,_⟩:=x;⟨o,ho,hc⟩
def gI.at{h h':Heap}{a l:Addr}{i:Int}(x:gI h a l i)(e:∀o,h.get? a=some o->h'.get? a=some o):gI h' a l i:=let ⟨o,ho,r⟩:=x;⟨o,e _ ho,r⟩
noncomputable def pB (l:Addr) (i:Int):Obj:={ cls:=.type "reversed",data:=.fields #[.ref l,rawInt i]}
def pC{h h':Heap}{t:Addr}{items:Array Value}(x:IsTup h t items)(e:∀o,h.get? t=some o->h'.get? t=some o):IsTup h' t items:=let ⟨o,ho,r⟩:=x;⟨o,e _ ho,r⟩
def Ek{t:Addr}{items:Array Value}{Q₁:Value->Shared->Prop}(ht:IsTup s.heap t items)(hfit:(items.size:Int)<2 ^ 63)
  (h:Q₁ (.ref s.heap.objs.size) { s with heap:=s.heap.push (pB t ((items.size:Int) - 1)),toks:=s.toks+1+1 }) :
  codeAny (model prog w) A (.call (.builtin "reversed.__new__") ⟨[.type "reversed",.ref t],[]⟩) (wants Q₁ E) s:=by
 refine codeAny_of_tree ?_;show wpAny _ A.in1 (do checkBuiltinCall "reversed.__new__" ⟨[.type "reversed",.ref t],[]⟩;again (.builtin "reversed.__new__" ⟨[.type "reversed",.ref t],[]⟩)) _ _ s;refine gv (aaX (F.newCall_reversed_1 _) (ZR ⟨plainId_quiet F.plain_reversed_new _,codeAny_builtin F.entry_reversed_new ?_⟩));rw[Around.under_plainId F.plain_reversed_new _];unfold Builtin.«reversed.__new__»;refine gv (aaX (newClass_reversed _) ?_);try dsimp only
 refine gv (aaX (a:=()) (by first|rfl|kernel_rfl) ?_);refine gv (aaX (a:=()) (by first|rfl|kernel_rfl) ?_);try dsimp only
 refine gv (abe ht.typeIs Mx ?_);try dsimp only
 refine gv ?_
 wp_delta
 refine gv (abX (T:="tuple") (b:=false) ht.typeIs (by rw[aa9];kernel_rfl) ?_);refine aas (λc=>absurd c (by decide)) (λ_=>?_);refine gv (abe ht.typeIs slot_tuple_getitem.lookup ?_);try dsimp only
 refine aas (λ_=>?_) (λc=>absurd (by decide) c);refine ZR ?_;refine aas (λc=>absurd c (by decide)) (λ_=>?_);refine gv (len_tuple ht hfit ?_);refine gv (m:=asInt? _) (ZR ?_);try dsimp only
 refine gv (m:=Builtin.SmallTypes.newRecord _ _) ?_;unfold Builtin.SmallTypes.newRecord;refine aax ?_ (by size_fits);exact ZR h
def El{t:Addr}{items:Array Value}{Q:Value->Shared->Prop}(ht:IsTup s.heap t items)(hfit:(items.size:Int)<2 ^ 63)
  (h:Q (.ref s.heap.objs.size) { s with heap:=s.heap.push (pB t ((items.size:Int) - 1)),toks:=s.toks+1+1 }):wpAny (model prog w) A (call (.type "reversed") [.ref t]) Q E s:=by
 refine callType_codes (Q₁:=λa b=>a=.ref s.heap.objs.size/\b={ s with heap:=s.heap.push (pB t ((items.size:Int) - 1)),toks:=s.toks+1+1 }) called (F.typeCall_reversed_1 _) F.entry_object_init (Ek ht hfit ⟨rfl,rfl⟩) ?_;rintro a b ⟨rfl,rfl⟩;have c:({ s with heap:=s.heap.push (pB t ((items.size:Int) - 1)),toks:=s.toks+1+1 }:Shared).TypeIs (.ref s.heap.objs.size) "reversed" :=⟨_,Z1 _ rfl,rfl⟩
 refine⟨c,F.args_object_init_2 _ _,?_⟩;exact object_init_meets (self:=Value.ref s.heap.objs.size) (rest:=[Value.ref t]) called.init.lookup called.made (by decide) prog w A.in1 _ _ ⟨c,rfl,h⟩
def next_item{it t:Addr}{i:Nat}{items:Array Value}{x:Value}{Q:Option Value->Shared->Prop}(hit:gI s.heap it t (i:Int))(ht:IsTup s.heap t items)(hx:items[i]?=some x)(hfit:(items.size:Int)<2 ^ 62)
  (hQ:∀h' tk,gI h' it t ((i:Int) - 1)->Heap.SameBut it s.heap h'->Q (some x) { s with heap:=h',toks:=tk }):wpAny (model prog w) A (pyNext (.ref it)) Q E s:=by
 obtain⟨o,c,e,b⟩:=id hit;have f:i<items.size:=(Array.getElem?_eq_some_iff.mp hx).1;unfold pyNext;refine gv (abL (aa3 (name:=Str.ofString "__next__") hit.typeIs slot_next
  (aaY slot_next hit.typeIs entry_next ?_ (args_next _))))
 unfold Builtin.«reversed.__next__»;refine gv (aaX (a:=(Value.ref it,[])) rfl ?_);try dsimp only
 refine gv (aaM c b (x:=.ref t) rfl ?_);refine gv (aaM c b (x:=rawInt (i:Int)) rfl ?_);show wpAny _ _ (if (i:Int)<0 then _ else _) _ _ s;rw[ZS (by omega)];try dsimp only
 refine gv (abe ht.typeIs slot_tuple_getitem.lookup ?_);try dsimp only
 refine aas (λd=>absurd d (by decide)) (λ_=>?_);refine gv (wpAny_mkInt ?_);refine gv (abL (getItem_tuple (j:=i) ht (by omega) (by omega) (by unfold seqIndex?;simp;omega) hx ?_));try dsimp only
 refine gv (aaM c b (x:=rawInt (i:Int)) rfl ?_);show wpAny _ _ (setField (.ref it) 1 (rawInt ((i:Int) - 1)) >>= _) _ _ _;refine gv (acg c b (by simp) ?_);refine ZR ⟨x,rfl,ZR (hQ _ _ ?_ (abI ..))⟩;exact⟨_,aaU _ c (Obj.isFreed_of_fields (abh b _)),(Obj.cls_mapFields ..).trans e,by
  rw[abh b];simp⟩
def next_end{it t:Addr}{Q:Option Value->Shared->Prop}(hh:A.handled=none)(hit:gI s.heap it t (-1))
  (hQ:∀h',Heap.ExtBut it s.heap h'->Q none { s with heap:=h' }):wpAny (model prog w) A (pyNext (.ref it)) Q E s:=by
 obtain⟨o,d,f,c⟩:=id hit;unfold pyNext;refine gv (abL (aa3 (name:=Str.ofString "__next__") hit.typeIs slot_next
  (aaY slot_next hit.typeIs entry_next ?_ (args_next _))))
 unfold Builtin.«reversed.__next__»;refine gv (aaX (a:=(Value.ref it,[])) rfl ?_);try dsimp only
 refine gv (aaM d c (x:=.ref t) rfl ?_);refine gv (aaM d c (x:=rawInt (-1)) rfl ?_);show wpAny _ _ (if (-1:Int)<0 then _ else _) _ _ s;rw[xC (by decide)];refine gv (acr ?_);refine gv ?_
 wp_delta
 refine gv (acg d c (by simp) ?_);have e:=aaU (Obj.mapFields λx=>x.setIfInBounds 1 (rawInt (-1))) d (Obj.isFreed_of_fields (abh c _));refine acg e (abh c _) (by simp) ?_;refine gv ?_;unfold Builtin.SmallTypes.stopIteration;first
 |show wpAny _ _ (newExc (.type "StopIteration") [] >>= _) _ _ _
 | (refine gv ?_;show wpAny _ _ (newExc (.type "StopIteration") [] >>= _) _ _ _)
 refine gv ?_;simp only[newExc,newTuple];refine gv (aax ?_ (by size_fits));refine gv (m:=firstArgMember _ _) (aaX (a:=Value.none) (by first|rfl | (simp only[firstArgMember];rfl)) ?_);refine aax ?_ (by size_fits);simp only[raiseNew];refine gv (wpAny_handled ?_);first|rw[show A.in1.handled=none from hh]|rw[hh]
 refine gv (ZR (wpAny_throw ?_));refine gv (abX (T:="StopIteration") (b:=true) ⟨_,Z1 _ rfl,rfl⟩ isSubtype_stop ?_);exact ZR (hQ _ ((((abI ..).extBut.trans (abI ..).extBut).push _).push _))
def vX{it t:Addr}{i:Int}{Q:Value->Shared->Prop}(hit:gI s.heap it t i)(h:Q (.ref it) s):wpAny (model prog w) A (pyIter (.ref it)) Q E s:=by
 refine wpAny_pyIter_slot hit.typeIs uw (aaY uw hit.typeIs Az ?_ (Cm _));show wpAny _ _ (ret (.ref it)) _ _ s;exact ZR ⟨_,rfl,"reversed",_,hit.typeIs,slot_next.lookup,h⟩
def Em{it t:Addr}{items:Array Value}{Q:Bool->Shared->Prop}(hit:gI s.heap it t ((items.size:Int) - 1))(ht:IsTup s.heap t items)(hfit:items.size<=sizeLine)
  (h:∀tk,Q ((items.size:Int) != 0) { s with toks:=tk }):wpAny (model prog w) A (Builtin.List.listLengthHint (.ref it)) Q E s:=by
 obtain⟨o,e,j,f⟩:=id hit;unfold Builtin.List.listLengthHint;refine gv (abe hit.typeIs Mw ?_);refine aas (λc=>absurd c (by decide +kernel)) (λ_=>?_);refine aas (λc=>absurd c (by decide)) (λ_=>?_);refine gv (abe hit.typeIs oJ.lookup ?_);generalize hid:("reversed.__length_hint__" : String)=V7
 dsimp only;rw[show splitId V7=some ("reversed","__length_hint__")from by subst hid;decide +kernel];subst hid;dsimp only;refine gv (abX (T:="reversed") (b:=true) hit.typeIs (by rw[aa9];kernel_rfl) ?_);refine aas (λc=>absurd c (by decide)) (λ_=>?_);refine aas (λc=>absurd c (by decide +kernel)) (λ_=>?_);refine gv (acr ?_);refine gv (aaX (oJ.bind _) ?_);refine gv (abL (aaY oJ hit.typeIs AA ?_ (Cn _)));unfold Builtin.«reversed.__length_hint__»;refine gv (aaX (a:=Value.ref it) rfl ?_);refine gv (aaM e f (x:=.ref t) rfl ?_);refine aas (λc=>absurd c aaP) (λ_=>?_);have d:(items.size:Int)<2 ^ 63:=by rw[aaG]at hfit;omega
 refine gv (len_tuple ht d ?_);refine gv (m:=asInt? _) (ZR ?_);refine gv (aaM e f (x:=rawInt ((items.size:Int) - 1)) rfl ?_);show wpAny _ _ (if (items.size:Int)<(items.size:Int) - 1+1 then _ else _) _ _ _;rw[ZS (by omega)];have g:(items.size:Int) - 1+1=(items.size:Int):=by omega
 rw[g];unfold retInt;refine gv (wpAny_mkInt (ZR ⟨_,rfl,?_⟩));generalize s.toks+1+1=tk
 show wpAny _ _ (asInt? (Value.int (items.size:Int) tk) >>= _) _ _ _;refine gv ?_;refine ZR (a:=some (items.size:Int)) ?_;have My:Builtin.List.listFitsIndex (items.size:Int)=true:=by unfold Builtin.List.listFitsIndex;rw[aae (by omega),aae (by omega)];rfl
 show wpAny _ _ (if (!Builtin.List.listFitsIndex (items.size:Int))=true then _ else _) _ _ _;rw[ZS (by rw[My];decide)];show wpAny _ _ (if (items.size:Int)<0 then _ else _) _ _ _;rw[ZS (by omega)];have i:Builtin.List.listTooLong ((items.size:Int).toNat)=false:=by unfold Builtin.List.listTooLong;rw[abw];exact Z6 (by omega)
 show wpAny _ _ (if Builtin.List.listTooLong ((items.size:Int).toNat)=true then _ else _) _ _ _;rw[ZS (by rw[i];decide)];exact ZR (h _)
def _root_.PySem.Walks.Mz(hh:A.handled=none)(I t:Addr)(hne:t≠I)(items:Array Value)(hfit:(items.size:Int)<2 ^ 62) :
  Walks prog w A I [I,t] [I] items.size (λi v=>items[items.size - 1 - i]?=some v) (λi h=>i<=items.size/\gI h I t ((items.size:Int) - 1 - (i:Int))/\IsTup h t items) where
 sub:=λb c=>by simp at c;simp[c]
 frame:=λ_ _ _ x l=>⟨x.1,x.2.1.at λo e=>l I (by simp) o e,pC x.2.2 λo e=>l t (by simp) o e⟩
 item:=λi s Q E q x d=>by
  have e:(items.size:Int) - 1 - (i:Int)=((items.size - 1 - i:Nat):Int):=by omega
  have a:=x.2.1;rw[e]at a;have p:items[items.size - 1 - i]?=some (items[items.size - 1 - i]'(by omega)):=abS (by omega);refine next_item a x.2.2 p hfit λj tk MA f=>?_;have r:((items.size - 1 - i:Nat):Int) - 1=(items.size:Int) - 1 - ((i+1:Nat):Int):=by omega
  rw[r]at MA;exact d _ j tk p ⟨q,MA,pC x.2.2 λo g=>(f.2 t hne).trans g⟩ λb o c g=>f.extBut b o (λh=>c (by simp[h])) g
 done:=λs Q E x d=>by
  have e:(items.size:Int) - 1 - (items.size:Int) = -1:=by omega
  have a:=x.2.1;rw[e]at a;exact next_end hh a λj k=>d j s.toks λb o c g=>k b o (λh=>c (by simp[h])) g
 self:=λ_ _ _ _ x d=>vX x.2.1 d
def AB{R:Result->Shared->Prop}{I t:Addr}{items:Array Value}(hh:A.handled=none)(hit:gI s.heap I t ((items.size:Int) - 1))(ht:IsTup s.heap t items)(hne:t≠I)(hlen:items.size<=sizeLine)
  (S:Addr) (hSI:S≠I) (hSt:S≠t) (res:Value) (c₀:Nat) (hS:s.heap.get? S=some { cls:=.type "list",data:=.seq #[] c₀ })
  (hR:∀h' tk acc' c',(∀b o,b≠S->b≠I->s.heap.get? b=some o->h'.get? b=some o)->h'.get? S=some { cls:=.type "list",dict:=none,data:=.seq acc' c',slots:=#[]}->
   ItemsOf (λi v=>items[items.size - 1 - i]?=some v) acc' items.size->R (.ok (.ret res)) { s with heap:=h',toks:=tk }) :
  wpAny (model prog w) A.in1 (Builtin.List.listExtendWith (.ref S) (.ref I) res)
   (λfin s'=>match fin with|.done f=>R (.ok f) s'|.again c'=>c'.quiet=true/\codeAny (model prog w) A c' R s') (λe s'=>R (.error e) s') s:=by
 have y:(items.size:Int)<2 ^ 62:=by rw[aaG]at hlen;omega
 have k:S∉[I,t]:=λj=>by rcases List.mem_cons.mp j with e|e;exact hSI e;exact hSt (List.mem_singleton.mp e)
 have W:=(Walks.Mz (prog:=prog) (w:=w) (A:=A.in1) hh I t hne items y).toS;have c:∀(h:Heap) (l tk:Nat),gI h I t ((items.size:Int) - 1 - ((0:Nat):Int))->IsTup h t items->(∀b o,b≠S->s.heap.get? b=some o->h.get? b=some o)->
   h.get? S=some { cls:=.type "list",data:=.seq #[] l }->codeAny (model prog w) A (.builtin "list.extend.loop" ⟨[.ref S,.ref I,res],[]⟩) R { s with heap:=h,toks:=tk }:=by
  intro h l tk hit ht z QU;refine codeAny_extend_loopS W hlen S k res items.size 0 _ #[] l rfl (aaz _) ⟨aaz _,hit,ht⟩ QU (ItemsOf.nil _) λs' acc' c' j p d=>?_;rw[Moved.eq_with j];refine hR s'.heap s'.toks acc' c' (λb o g q e=>j.heap b o (λa=>?_) (z b o g e)) p d;rcases List.mem_cons.mp a with B|a
  .exact g B
  .exact q (List.mem_singleton.mp a)
 unfold Builtin.List.listExtendWith;refine gv (abT (T:="reversed") hit.typeIs ?_);have C:Builtin.List.listSameRef (.ref S) (.ref I)=false:=by simp[Builtin.List.listSameRef,hSI]
 have G:(Value.type "reversed" ==Value.type "list")=false:=by decide
 have H:(Value.type "reversed" ==Value.type "tuple")=false:=by decide
 simp only[C,G,H,Bool.or_false,Z9,aaH];refine gv (vX hit ?_);refine gv (wpAny_holding (Em hit ht hlen λtk=>?_));have MB:gI s.heap I t ((items.size:Int) - 1 - ((0:Nat):Int)):=by simpa using hit
 refine aas (λ_=>?_) (λ_=>ZR ⟨plainId_quiet F.plain_extend_loop _,c _ c₀ _ MB ht (λb o _ e=>e) hS⟩);refine gv (acr ?_);refine gv ?_;show wpAny _ _ (updateSeq S (·.push .none) >>= λ_=>updateSeq S (·.pop)) _ _ _;refine gv (ab6 hS rfl ?_);have x:=aaU (Obj.mapSeq (·.push Value.none)) hS rfl;refine ab6 (hz:=by seq_fits) x rfl ?_;have QV:=aaU (Obj.mapSeq (·.pop)) x rfl;have r:∀b o,b≠S->s.heap.get? b=some o->((s.heap.update S (Obj.mapSeq (·.push Value.none))).update S (Obj.mapSeq (·.pop))).get? b=some o:=λb o g e=>(aa7 _ _ (aay g)).trans ((aa7 _ _ (aay g)).trans e);exact ZR ⟨plainId_quiet F.plain_extend_loop _,c _ _ _ (MB.at λo e=>r _ _ (aay hSI) e) (pC ht λo e=>r _ _ (aay hSt) e) r QV⟩
def En{R:Result->Shared->Prop}{I t:Addr}{items:Array Value}(hh:A.handled=none)(hit:gI s.heap I t ((items.size:Int) - 1))(ht:IsTup s.heap t items)(hne:t≠I)(hlen:items.size<=sizeLine)
  (S:Addr) (hSI:S≠I) (hSt:S≠t) (hS:s.heap.get? S=some { cls:=.type "list",data:=.seq #[]})
  (hR:∀h' tk acc' c',(∀b o,b≠S->b≠I->s.heap.get? b=some o->h'.get? b=some o)->h'.get? S=some { cls:=.type "list",dict:=none,data:=.seq acc' c',slots:=#[]}->
   ItemsOf (λi v=>items[items.size - 1 - i]?=some v) acc' items.size->R (.ok (.ret .none)) { s with heap:=h',toks:=tk }) :
  wpAny (model prog w) A.in1 (Builtin.«list.__init__» ⟨[.ref S,.ref I],[]⟩)
   (λfin s'=>match fin with|.done f=>R (.ok f) s'|.again c'=>c'.quiet=true/\codeAny (model prog w) A c' R s') (λe s'=>R (.error e) s') s:=by
 show wpAny _ _ (do let old <-Builtin.List.listItems (.ref S);Builtin.List.listUpdate (.ref S) (λ_=>#[]);letGo old.toList.reverse;Builtin.List.listExtendWith (.ref S) (.ref I) .none) _ _ s;refine gv ?_;unfold Builtin.List.listItems;refine gv (wpAny_seqItems hS rfl (ZR ?_));show wpAny _ _ (updateSeq S (λ_=>#[]) >>= λ_=>letGo (#[]:Array Value).toList.reverse >>= λ_=>Builtin.List.listExtendWith (.ref S) (.ref I) .none) _ _ s;refine gv (ab6 hS rfl ?_);have h:=aaU (Obj.mapSeq (λ_=>(#[]:Array Value))) hS rfl;have MC:∀b o,b≠S->s.heap.get? b=some o->(s.heap.update S (Obj.mapSeq (λ_=>(#[]:Array Value)))).get? b=some o:=
  λb o c e=>(aa7 _ _ (aay c)).trans e
 refine gv (wpAny_letGo ?_);refine AB hh (hit.at λo e=>MC _ _ (aay hSI) e) (pC ht λo e=>MC _ _ (aay hSt) e) hne hlen S hSI hSt .none _ h λh' tk acc' c' j d a=>?_;exact hR h' tk acc' c' (λb o c g e=>j b o c g (MC b o c e)) d a
def uP{Q:Value->Shared->Prop}{I t:Addr}{items:Array Value}(hh:A.handled=none)(hit:gI s.heap I t ((items.size:Int) - 1))(ht:IsTup s.heap t items)(hne:t≠I)(hlen:items.size<=sizeLine)
  (hQ:∀h' tk acc' c',(∀b o,b≠I->s.heap.get? b=some o->h'.get? b=some o)->
   h'.get? s.heap.objs.size=some { cls:=.type "list",dict:=none,data:=.seq acc' c',slots:=#[]}->ItemsOf (λi v=>items[items.size - 1 - i]?=some v) acc' items.size->Q (.ref s.heap.objs.size) { s with heap:=h',toks:=tk }) :
  wpAny (model prog w) A (call (.type "list") [.ref I]) Q E s:=by
 refine callType_codes (Q₁:=λa g=>a=.ref s.heap.objs.size/\g={ s with heap:=s.heap.push { cls:=.type "list",data:=.seq #[]}}) F.called_list (F.typeCall_list_1 _) F.entry_list_init
  (code_list_new _ ⟨rfl,rfl⟩) λa g j=>?_
 obtain⟨rfl,rfl⟩:=j;have h:(s.heap.push { cls:=.type "list",data:=.seq #[]}).get? s.heap.objs.size=some { cls:=.type "list",data:=.seq #[]}:=Z1 _ rfl;have k:I<s.heap.objs.size:=by obtain⟨o,d,_⟩:=hit;exact ZW d
 have l:t<s.heap.objs.size:=by obtain⟨o,d,_⟩:=ht;exact ZW d
 refine⟨⟨_,h,rfl⟩,F.args_list_init_2 _ _,En (A:=A.in1) hh (hit.at λo e=>ZK _ e) (pC ht λo e=>ZK _ e) hne hlen _ (acD k) (acD l) h λh' tk acc' c' p f c=>?_⟩;exact⟨rfl,hQ h' tk acc' c' (λb o q e=>p b o (aad (ZW e)) q (ZK _ e)) f c⟩
end
end Rv
namespace Sm
open PySem PySem.Spec PyProof.Rows L2 PySem.SeqAt
open Ev (D O Hh Fr R aQ E Es Eo T S Ss Fl Src bS bM TY BI ME)
section
variable{X:Cx}{G:Tb}{n:Nat}{sc:Scope}{N:List Str}{df:Bool}{m:List Nat}{a b:E}{xa:Expr}{pos:Pos}
def Ep{vs:List V}{us:List Value}(r:Vals vs us){acc:Array Value}(h:ItemsOf (λi v=>us.toArray[us.toArray.size - 1 - i]?=some v) acc us.toArray.size):Vals vs.reverse acc.toList:=by
 obtain⟨c,g⟩:=h;have e:acc.toList=us.reverse:=by
  apply abv;intro i;by_cases d:i<us.length
  .have f:i<acc.size:=by rw[c];simpa using d
   have:=g i _ (abS f);rw[List.getElem?_reverse d];simp only[ZL,List.getElem?_toArray]at this;rw[this];simp[f]
  .have j:acc.size=us.length:=by rw[c];simp
   rw[aac (by rw[abd];omega),aac (by rw[acB];omega)]
 rw[e];exact Vals.reverse r
def Jf {p p2 pos2:Pos}(ha:JE G n sc N df m a xa) (h1:("list" : Str)∈G.bl:=by decide +kernel) (Ci:sc.names.lookup ("list" : Str)=some .globalImplicit:=by rfl)
  (hg:sc.names.lookup ("reversed" : Str)=some .globalImplicit:=by rfl) (hb:("reversed" : Str)∈G.bl:=by decide +kernel)
  (hst:∀env:Env,starEach [xa] env=[(false,eval xa env)]:=by intro _;rfl)
  (MD:∀env:Env,starEach [Expr.Call (.Name "reversed" p2) [xa] [] pos2] env=[(false,eval (Expr.Call (.Name "reversed" p2) [xa] [] pos2) env)]:=by intro _;rfl) :
  JE G n sc N df m (.gP (.rev a)) (.Call (.Name "list" p) [.Call (.Name "reversed" p2) [xa] [] pos2] [] pos):=λX g=>by
 intro i s σ H Q I q;obtain⟨r,W,h,d,Y,Z,hr,e,q⟩:=q;rw[Ev.ev,Ev.dj]at e;replace e:=Ev.ah e;obtain⟨src,J,c,e⟩:=e;replace c:=Ev.ah c;obtain⟨x,h4,e2,c⟩:=c;replace c:=Ev.aI c;obtain⟨c,y0⟩:=c;subst y0;refine aa6 (kC I (g.gl Ci) (g.bl _ h1) (show bootBuiltins ("list" : Str)=some (.type "list")by decide +kernel) ?_ (by decide) (by decide));refine aao ?_ (MD _) rfl;rw[MD];show wpAny _ _ (spliced ((false,eval (Expr.Call (.Name "reversed" p2) [xa] [] pos2) X.env) :: backTo pos [])) _ _ s;refine Calls.spliced_cons ?_;have V8:PA X [xa] _:=gy (ha X g) gk (by rw[hst];rfl);refine Call_ (kC I (g.gl hg) (g.bl _ hb) (show bootBuiltins ("reversed" : Str)=some (.type "reversed")by decide +kernel) (aao (bH (V8 pos2 i s σ H (λL H1=>∃l u,L=[u]/\RV X.K H1 l x u/\HR X.K H1 l J/\Fm X.K r l H H1) I ⟨r,W,h,x,J,Z,hr,e2,λu H1 l B k f1=>⟨l,u,rfl,B,k,f1⟩⟩) λus s1 z=>?_) (hst _) rfl));obtain⟨L,H1,I1,rv,l,u,rfl,B,k,f1⟩:=z;cases x<;>simp only[Ev.D3,Option.map,reduceCtorEq]at c
 rename_i ds;cases c;obtain⟨t,ws,rfl,z,w⟩:=B.shape;cases rv with
 |cons ra rb=>
 cases rb;cases ra;obtain⟨f,pv,pt,M⟩:=I1.tuple z;have j:f.toArray.size<=sizeLine:=by rw[ZL,<-pv.length];exact M
 have hf:(f.toArray.size:Int)<2 ^ 63:=by rw[aaG]at j;omega
 refine Rv.El pt hf ?_;refine Calls.spliced_nil ?_;have I2:Inv X i σ H1 { s1 with heap:=s1.heap.push (Rv.pB t ((f.toArray.size:Int) - 1)),toks:=s1.toks+1+1 }:=I1.kept λb o e=>ZK _ e;have C:t≠s1.heap.objs.size:=by obtain⟨o,ho,_⟩:=pt;exact aad (ZW ho)
 refine Rv.uP (I1.ok.hd g.calm) ⟨_,Z1 _ rfl,rfl,rfl⟩ (Rv.pC pt λo e=>ZK _ e) C j λY tk y c' hk F A=>?_;obtain⟨hz2,q2⟩:=(q.later f1).lst e w.reverse k;have P:s1.heap.objs.size<=(s1.heap.push (Rv.pB t ((f.toArray.size:Int) - 1))).objs.size:=by rw[size_push'];exact acH _
 refine⟨.ref _,_,I1.laid (t':=tk) (o:=.lst ws.reverse) (λb u e=>hk b u (aad (ZW e)) (ZK _ e)) P ?_,rfl,q2 _ (I1.hok.fresh P)⟩;exact⟨by simpa using M,y.toList,c',Ep pv A,by simpa using F⟩
end
theorem aG.ofInts{K:PySem.W.Frag}{H:Hp}{r:List Addr}:∀ns:List Int,aG K H r (ns.map D.int) (ns.map V.int)
 |[]=>.nil
 |_ :: l=>.cons rfl (aG.ofInts l)
def MF{K:PySem.W.Frag}{H:Hp}{a:Addr}{vs:List V}(hO:sN H)(hS:fz K H a vs):Af K H a vs:=by
 rcases hS with h|h
 .rcases h with h|⟨o,h⟩
  .rcases hO a with q|⟨o,b,q⟩
   .rw[q]at h;cases h
   .rw[q]at h;cases h
  .exact .inl ⟨o,h⟩
 .exact .inr h
def Gu{l:List D}{k:Nat}{o:O}(hk:([O.bT l])[k]?=some o):o=.bT l:=by
 cases k with|zero=>simp at hk;exact hk.symm|succ k=>simp at hk
def V9{K:PySem.W.Frag}{H:Hp}{r:List Addr}{l:List D}:OX K H r [.bT l] where
 ob:=λk c ds d=>by have:=Gu d;cases this
 pv:=λk a b d=>by have:=Gu d;cases this
 jp:=λk _ _ _ _ _ _ _ d _ _=>by have:=Gu d;cases this
 jo:=λk _ _ _ _ _ _ _ _ d _=>by have:=Gu d;cases this
def QW{K:PySem.W.Frag}{F:List Ev.Fn}{w n f:Nat}{H:Hp}{a:Addr}{ns:List Int}(hO:sN H)(hS:fz K H a (ns.map V.int)){h':Hh}(e:Ev.run F w n f [.ref 0] [.bT (ns.map D.int)]=.ok (.bl true) h') :
  oA K F w n f [.ref a] H (λv _=>v=.bl true) λ_ _ _=>False:=by
 refine⟨[a],[.bT (ns.map D.int)],[.ref 0],.bl true,h',.cons (show RV K H [a] (.ref 0) (.ref a)from ⟨a,rfl,rfl⟩) .nil,⟨rfl,λk o c=>?_,λk l b x y _ _ c _=>?_
  ,V9
  ⟩,e,λv H' g d _ _=>d⟩
 .cases k with
  |zero=>
   simp at c;subst c;exact⟨a,rfl,_,MF hO hS,aG.ofInts ns⟩
  |succ k=>simp at c
 .cases k with
  |zero=>simp at c
  |succ k=>simp at c
def Jg{F:List Ev.Fn}{wh n f:Nat}{l:PySem.W.OpenLaw}{q:Program}{loose:List Str}{XP:(Str->Option Value)->Heap->Prop}{YP:World->Heap->Prop}{d:DefRec}{K:Params->PySem.W.Frag}{x:Str}(hn:l.most=some 63)(hdf:d.params.defaults=[])(hr:eW n callerA)
  (hY:∀(w:World) (h:Heap),YP w h->(K w.params).In h) (good:∀ns:List Int,ns.length<=63->∃h',Ev.run F wh n f [.ref 0] [.bT (ns.map D.int)]=.ok (.bl true) h')
  (Fo:∀(w:World) (mg:Str->Option Value) (fa:Addr) (h:Heap),(K w.params).In h->h.Ns mainGlobals mg->mg d.name=some (.ref fa)->
   ∃fd:FuncData,(∀(s:Shared) (u:Value),BindsTo s fd ⟨[u],[]⟩ [(x,u)])/\∀base:Heap,(K w.params).In base->base.Ns mainGlobals mg->fB l.prog w (K w.params) mg base lE n fa fd [x] (oA (K w.params) F wh n f)) :
  PySem.W.WalkO q loose XP YP l.row.toRowW d [] (λf vs=>PySem.call f vs):=
 L2.DZ (n:=63) (k:=n) (x:=x) (CX:=lE) (sp:=λK=>oA K F wh n f) hn (by decide) hdf hr hY Fo (λK H a ns b c g=>by
  obtain⟨h',e⟩:=good ns b;exact QW c g e) λ_ _ _ _ z=>z
theorem Cp{P:Program}{w:World}{K:PySem.W.Frag}{mg:Str->Option Value}{base:Heap}{G:Tb}(T:Top P w K mg G)
  (st:∀n,uT P w K mg base G n->uT P w K mg base G (n+1)):∀n,uT P w K mg base G n
 |0=>λf i _=>IL
 |n+1=>st n (Cp T st n)
end Sm
namespace Sm
open PySem PySem.Spec PyProof.Rows L2
open Ev (D O Hh Fr R aQ E Es Eo It T S Ss Fl Src bS bM TY BI ME)
section
variable{G:Tb}{n:Nat}{sc:Scope}{N:List Str}{df:Bool}{m:List Nat}{a b:E}{xa xb:Expr}{pos:Pos}
noncomputable def hasB(N:List Str)(m:List Nat)(x:Str)(i:Nat):Bool:=(List.range N.length).any λj=>m[j]?==some i&&N[j]?==some x
def hasB.of{x:Str}{i:Nat}(h:hasB N m x i=true):∃j:Nat,m[j]?=some i/\N[j]?=some x:=by
 obtain⟨j,_,q⟩:=List.any_eq_true.mp h;rw[ZJ]at q;exact⟨j,by simpa using q.1,by simpa using q.2⟩
noncomputable def vB (sc:Scope) (N:List Str) (m:List Nat) (x:Str) (i:Nat):Bool:=hasB N m x i&&(sc.names.lookup x==some .local ||sc.names.lookup x==some .cell ||sc.names.lookup x==some .free)&&!(x==("__debug__" : Str))&&!(x==("__classdict__" : Str))
def jv{x:Str}{i:Nat}(h:vB sc N m x i=true):JE G n sc N df m (.v i) (.Name x pos):=by
 unfold vB at h;simp only[ZJ,aaK,aau]at h;obtain⟨⟨⟨d,c⟩,e⟩,f⟩:=h;obtain⟨j,g,k⟩:=hasB.of d;exact UG j i g k (by rcases c with (c|c)|c;exact .inl (by simpa using c);exact .inr (.inl (by simpa using c));exact .inr (.inr (by simpa using c))) e f
noncomputable def gB(sc:Scope)(N:List Str)(df:Bool)(m:List Nat)(x:Str)(i:Nat):Bool:=hasB N m x i&&(sc.names.lookup x==some .local || (df&&sc.names.lookup x==some .cell))&&decide m.Nodup&&decide N.Nodup
theorem gB.of{x:Str}{i:Nat}(h:gB sc N df m x i=true):∃j:Nat,m[j]?=some i/\N[j]?=some x/\(sc.names.lookup x=some .local\/(df=true/\sc.names.lookup x=some .cell))/\m.Nodup/\N.Nodup:=by
 unfold gB at h;simp only[ZJ,aau]at h;obtain⟨⟨⟨d,c⟩,e⟩,f⟩:=h;obtain⟨j,g,k⟩:=hasB.of d;exact⟨j,g,k,by rcases c with c|⟨c,l⟩;exact .inl (by simpa using c);exact .inr ⟨c,by simpa using l⟩,aag e,aag f⟩
def Wa{x:Str}{i:Nat}(h:gB sc N df m x i=true):JG G n sc N df m (.one i) (.Name x pos):=by
 obtain⟨j,c,d,e,f,g⟩:=gB.of h;exact LQ j i f g c d e
def Wb{x:Str}{i:Nat}{l:List Nat}{xs:List Expr}(h:gB sc N df m x i=true)(hs:ue G n sc N df m l xs):ue G n sc N df m (i :: l) (.Name x pos :: xs):=by
 obtain⟨j,c,d,e,f,g⟩:=gB.of h;exact D8 j i f g hs c d e
def UP{i:Nat}{x:Str}{pos':Pos}(h:gB sc N df m x i=true)(ha:JE G n sc N df m a xa)(hs:∀env:Env,swapsWith xa (some (.Name x pos')) pos.line env=pure false:=by intro _;rfl):JS G n sc N df m (.set i a) (.Assign [.Name x pos'] xa pos):=by
 obtain⟨j,c,d,e,f,g⟩:=gB.of h;exact LR j i f g ha hs c d e
noncomputable def vY (sc:Scope) (x:Str):Bool:=sc.names.lookup x==some .globalImplicit&&!(x==("__debug__" : Str))
def Wc{f:Nat}{i:FI}{es:Es}{x:Str}{e0:Expr}{xs:List Expr}{p:Pos}(h:vY sc x=true)(hf:G.fi[f]?=some i)(hx:i.name=x)(hs:JA G n sc N df m es (e0 :: xs))
  (hst:∀env:Env,starEach (e0 :: xs) env=(false,eval e0 env) :: starEach xs env:=by intro _;rfl) (hpl:∀env:Env,(backTo pos (starEach xs env)).any (·.1)=false:=by intro _;rfl) :
  JE G n sc N df m (.cl f es) (.Call (.Name x p) (e0 :: xs) [] pos):=by
 subst hx;unfold vY at h;simp only[ZJ,aaK]at h;exact QJ hf hs (by simpa using h.1) h.2 hst hpl
noncomputable def Wd:Expr->List Str
 |.Name x _=>[x]
 |.Tuple c _ _=>c.filterMap λy=>match y with|.Name x _=>some x|_=>none
 |_=>[]
noncomputable def R3(N:List Str)(m:List Nat)(scope:Scope):List (Str×Nat):=(N.zip m).filter λp=>scope.names.contains (p.1,NameKind.free)
noncomputable def cN(N:List Str)(m:List Nat)(scope:Scope)(tg:Expr):List Str:=Wd tg++(R3 N m scope).map (·.1)
noncomputable def cM(N:List Str)(m:List Nat)(scope:Scope)(t:T):List Nat:=Ev.slots t++(R3 N m scope).map (·.2)
def QX{elt:E}{t:T}{it:Ev.It}{cond:Eo}{tg xi xe:Expr}{ifs:List Expr}{scope:Scope}(hn:vN sc N m scope t (cN N m scope tg) (cM N m scope t)=true)(hs:LZ sc scope=true)
  (hi:JI G n sc N df m it tg xi) (hg:JG G n (iK sc scope) (cN N m scope tg) false (cM N m scope t) t tg) (hc:JC G n (iK sc scope) (cN N m scope tg) false (cM N m scope t) cond ifs)
  (he:JE G n (iK sc scope) (cN N m scope tg) false (cM N m scope t) elt xe) (hf:∀(env:Env) x,foldedSetIterable xi env x=pure x:=by intro _ _;rfl):JE G n sc N df m (.comp elt t it cond) (.ListComp xe [⟨tg,xi,ifs,0⟩] scope pos):=
 IQ hi hg hc he (namesOk.of hn) (oF.of hs) hf
def UQ{rest:List Expr}(ha:JT G n sc N df m a xa)(hb:JW G n sc N df m b (.BoolOp .And (xb :: rest) pos)):JT G n sc N df m (.an a b) (.BoolOp .And (xa :: xb :: rest) pos):=LG (Ga ha hb)
def UR{rest:List Expr}(ha:JT G n sc N df m a xa)(hb:JW G n sc N df m b (.BoolOp .Or (xb :: rest) pos)):JT G n sc N df m (.orr a b) (.BoolOp .Or (xa :: xb :: rest) pos):=LG (BQ ha hb)
def allB(G:Tb)(n:Nat):List (Ss×Stmt×List Str)->Prop
 |[]=>True
 |p :: r=>lI G n (aK p.2.1) p.2.2 true (List.range p.2.2.length) p.1 (fW p.2.1)/\allB G n r
theorem allB.get:∀{l:List (Ss×Stmt×List Str)}{k:Nat}{p:Ss×Stmt×List Str},allB G n l->l[k]?=some p->lI G n (aK p.2.1) p.2.2 true (List.range p.2.2.length) p.1 (fW p.2.1)
 |[],_,_,_,e=>nomatch e
 |_ :: _,0,_,h,e=>by cases e;exact h.1
 |_ :: r,k+1,p,h,e=>allB.get (l:=r) (k:=k) h.2 (by simpa using e)
end
end Sm
namespace Sm
open PySem PySem.Spec PyProof.Rows L2 PySem.SeqAt
open Ev (D O Hh Fr R aQ E Es Eo T S Ss Fl Src bS bM TY BI ME)
end Sm
namespace Sm
open PySem PySem.Spec PyProof.Rows L2
open Ev (D O Hh Fr R aQ E Es Eo It T S Ss Fl Src bS bM TY BI ME)
section
variable{K:PySem.W.Frag}{H H1:Hp}{r:List Addr}{h:Hh}{n k:Nat}{c:Ev.Cl}{ds ds':List D}{a dx:Addr}{fs fs':List (Str×V)}
def gR{fr:Fr}{i:Nat}(e:Ev.fT c h fr[i]?.join=some (n,ds)):fr[i]?=some (some (.ref n))/\h[n]?=some (.obj c ds):=by
 cases z:fr[i]? with
 |none=>rw[z]at e;cases e
 |some o=>
  rw[z]at e;cases o with
  |none=>cases e
  |some d=>
   cases d with
   |ref m=>
    simp only[Option.join,Option.bind,id,Ev.fT]at e;split at e
    .rename_i f ds' y;split at e
     .rename_i b;cases e;subst b;exact⟨rfl,y⟩
     .cases e
    .cases e
   |_=>cases e
theorem ng{f:Str}{v:V}:∀{fs:List (Str×V)},fs.lookup f≠none->(bw f v fs).length=fs.length
 |[],z=>absurd rfl z
 | (g,x) :: r,z=>by
  rw[show bw f v ((g,x) :: r)=(if g=f then (g,v) :: r else (g,x) :: bw f v r)from rfl];by_cases b:g=f
  .rw[xC b];simp
  .rw[ZS b,ZU,ZU,ng (fs:=r) (λy=>z (by
    have d:(f==g)=false:=beq_eq_false_iff_ne.mpr λq=>b q.symm;simp only[List.lookup,d];exact y))]
def Fm.iw{C:Addr}{f:Str}{v:V}(ha:H a=some (.ins C dx fs))(hm:a∈r)(hf:¬ ud f):Fm K r r H (upd H a (.ins C dx (bw f v fs))) where
 pre:=λn b e=>e
 new:=λb e=>.inl e
 keep:=λb d e n=>by rw[aC (λz=>n (by rw[z];exact hm))];exact e
 tups:=λb l e=>by
  rcases e with (e|⟨d,e⟩)|e
  .exact .inl (.inl (by rw[aC (jP e ha (by intro z;cases z))];exact e))
  .exact .inl (.inr ⟨d,by rw[aC (jP e ha (by intro z;cases z))];exact e⟩)
  .exact .inr e
 fin:=λb C' o fs' e=>by
  by_cases i:b=a
  .subst i;rw[ha]at e;cases e;exact⟨_,bz,λg j=>by rw[bx,ZS (λ(z:g=f)=>hf (by rw[<-z];exact j))]⟩
  .exact⟨fs',by rw[aC i];exact e,λ_ _=>rfl⟩
def HR.R4{a0:Addr}(hr:HR K H r h)(hn:h[n]?=some (.obj c ds))(f:Fm K r r H H1)(ag:∀b x,b≠a0->H b=some x->H1 b=some x)(h0:(∃o,H1 a0=some o/\Ag o)\/∀(m i k:Nat),h[m]?=some (.b9 i k)->r[m]?≠some a0)
  (k1:∀(j:Nat) o b,h[j]?=some o->oz o=false->(∀ds,o≠.bT ds)->r[j]?=some b->b≠a0) (k2:∀ob vs,H a0≠some (.bT ob vs))
  (k4:∀(n':Nat) c' ds' b,n'≠n->h[n']?=some (.obj c' ds')->r[n']?=some b->b≠a0) (k5:∀(j n' k:Nat) b,n'≠n->h[j]?=some (.b9 n' k)->r[j]?=some b->b≠a0)
  (nw:oh K H1 r (h.set n (.obj c ds')) n c ds' a dx fs'):HR K H1 r (h.set n (.obj c ds')):=by
 have hl:=(List.getElem?_eq_some_iff.mp hn).1;have bk:∀(j:Nat) o,(h.set n (O.obj c ds'))[j]?=some o->(j=n/\o=.obj c ds')\/(j≠n/\h[j]?=some o):=λj o e=>by
  by_cases l:n=j
  .subst l;rw[ZP hl]at e;cases e;exact .inl ⟨rfl,rfl⟩
  .rw[Kc l]at e;exact .inr ⟨λz=>l z.symm,e⟩
 refine⟨by simp[hr.len],λj o e=>?_,λi j b x y F e2 G I=>?_
  ,⟨λj c' J e=>?_,λm i k e=>?_,λm X b i k o p d g A Y=>?_,λi j b B C L M p d g A=>?_⟩⟩
 .rcases bk j o e with ⟨rfl,rfl⟩|⟨l,e⟩
  .exact⟨a,nw.at_,trivial⟩
  .obtain⟨b,F,z⟩:=hr.ob j o e;refine⟨b,F,?_⟩;by_cases Z:oz o=true
   .cases o with
    |obj _ _=>trivial
    |b9 _ _=>trivial
    |_=>cases Z
   .have N:oz o=false:=by simpa using Z
    refine z.mono f (λJ us g d=>?_) (λob us d=>ag _ _ (λy=>k2 ob us (y▸d)) d)
    .exact ag _ _ (k1 j o b e N (by subst g;intro _ y;cases y) F) d
 .rcases bk i _ G with ⟨_,q⟩|⟨_,G⟩
  .cases q
  .rcases bk j _ I with ⟨_,q⟩|⟨_,I⟩
   .cases q
   .exact hr.inj i j b x y F e2 G I
 .rcases bk j _ e with ⟨rfl,q⟩|⟨l,e⟩
  .cases q;exact⟨a,dx,fs',nw⟩
  .obtain⟨b,qe,gs,z⟩:=hr.ox.ob j c' J e;exact⟨b,qe,gs,z.go f.pre f.tups (λx w=>ag _ _ (k4 j c' J b l e z.at_) w) (λm k w=>by
    rw[Kc (λy=>by subst y;rw[hn]at w;cases w)];exact w) λm b k x P Q w3=>ag _ _ (k5 m j k b l Q P) w3⟩
 .rcases bk m _ e with ⟨_,q⟩|⟨_,e⟩
  .cases q
  .obtain⟨b,o,p,d,g⟩:=hr.ox.pv m i k e;by_cases hb:b=a0
   .subst hb;rcases h0 with ⟨o',P,Q⟩|w
    .exact⟨b,o',p,P,Q⟩
    .exact absurd p (w m i k e)
   .exact⟨b,o,p,ag b o hb d,g⟩
 .rcases bk m _ g with ⟨_,q⟩|⟨_,g⟩
  .cases q
  .rcases bk X _ A with ⟨_,q⟩|⟨_,A⟩
   .subst q;cases Y
   .exact hr.ox.jp m X b i k o p d g A Y
 .have w:∀(i:Nat) B C,(h.set n (O.obj c ds'))[i]?=some (.obj B C)->∃L M,h[i]?=some (.obj L M):=λi B C e=>by
   rcases bk i _ e with ⟨rfl,_⟩|⟨_,e⟩
   .exact⟨c,ds,hn⟩
   .exact⟨B,C,e⟩
  obtain⟨_,_,y1⟩:=w i B C g;obtain⟨_,_,y2⟩:=w j L M A;exact hr.ox.jo i j b _ _ _ _ p d y1 y2
def j0{ds:List D}{k j:Nat}{d d':D}(e:(ds.set k d)[j]?=some d'):(j=k/\d'=d)\/(j≠k/\ds[j]?=some d'):=by
 by_cases b:k=j
 .subst b;have f:=(List.getElem?_eq_some_iff.mp e).1;rw[List.length_set]at f;rw[ZP f]at e;cases e;exact .inl ⟨rfl,rfl⟩
 .rw[Kc b]at e;exact .inr ⟨λz=>b z.symm,e⟩
def pD{l:List (List Nat)}(hd:l.Nodup){i j:Nat}{x y:List Nat}(hi:l[i]?=some x)(hj:l[j]?=some y)(hne:i≠j):ay x≠ay y:=λz=>by
 have e:=sQ z;subst e;exact hne ((List.getElem?_inj (List.getElem?_eq_some_iff.mp hi).1 hd).mp (hi.trans hj.symm))
def OX.Gv(q:OX K H r h){C:Addr}{m i k:Nat}(hi:H a=some (.ins C dx fs))(e:h[m]?=some (.b9 i k))(z:r[m]?=some a):False:=by
 obtain⟨b,o,f,g,d⟩:=q.pv m i k e;rw[z]at f;cases f;rw[hi]at g;cases g;rcases d with ⟨_,d⟩|⟨_,d⟩<;>cases d
def HR.Er{f:List Nat}{m:Nat}{b:Addr}{vs ws:List V}{es:List D}(hr:HR K H r h)(hn:h[n]?=some (.obj c ds))(q:oh K H r h n c ds a dx fs)(hk:c.nv<=k/\k<c.nl)(hf:c.nm[k]?=some f)(l1:fs.lookup (ay f)=some (.ref b))(l2:r[m]?=some b)(l3:h[m]?=some (.b9 n k))(l4:H b=some (.lst vs))(rv:aG K H r es ws) :
  Fm K r r H (upd H b (.lst ws))/\HR K (upd H b (.lst ws)) r (h.set n (.obj c (ds.set k (.tup es)))):=by
 have I:Fm K r r H (upd H b (.lst ws)):=.write l4 (ZM l2);have N:∀d x,d≠b->H d=some x->upd H b (.lst ws) d=some x:=λd x z e=>by rw[aC z];exact e
 have pv:∀i j:Nat,h[i]?=some (.b9 n j)->(h.set n (O.obj c (ds.set k (.tup es))))[i]?=some (.b9 n j):=λi j e=>by rw[Kc (λz=>by subst z;rw[hn]at e;cases e)];exact e
 have MG:∀(i B j:Nat) d,(B,j)≠(n,k)->h[i]?=some (.b9 B j)->r[i]?=some d->d≠b:=λi B j d z l p y=>by
  subst y;have:=hr.ox.jp m i d n k _ l2 p l3 l rfl;subst this;rw[l3]at l;cases l;exact z rfl
 have We:a≠b:=λz=>by
  subst z;obtain⟨C,_,e⟩:=q.ins;rw[l4]at e;cases e
 refine⟨I,hr.R4 (a0:=b) (a:=a) (dx:=dx) (fs':=fs) hn I N (.inl ⟨_,bz,.inl ⟨ws,rfl⟩⟩) (λj o d l p e3 e4=>?_) (λob vs z=>by rw[l4]at z;cases z) (λB c' ds' d z l p y=>?_) (λj B k' d z l p=>MG j B k' d (λy=>z (by cases y;rfl)) l p) ⟨q.at_,?_,by simpa using q.len,q.few,q.nd,q.no,λj g e J G A=>?_,λj g e J G A=>?_,λj g e J G A=>?_⟩⟩
 .intro y;subst y;have:=λ(w:vE o=true)=>hr.ox.jp m j d n k o l2 e4 l3 l w;obtain⟨b2,e5,z⟩:=hr.ob j o l;rw[e4]at e5;cases e5;cases o with
  |lst ds=>have w:=this rfl;subst w;rw[l3]at l;cases l
  |bT ds=>exact e3 ds rfl
  |_=>cases p
 .subst y;obtain⟨a',_,_,w⟩:=hr.ox.ob B c' ds' l;obtain⟨C,_,w2⟩:=w.ins;have:=w.at_;rw[p]at this;cases this;rw[l4]at w2;cases w2
 .obtain⟨C,l,p⟩:=q.ins;exact⟨C,l,N _ _ We p⟩
 .rcases j0 A with ⟨rfl,rfl⟩|⟨P,A⟩
  .omega
  .obtain⟨u,l,p⟩:=q.val j g e J G A;exact⟨u,l,p.mono I⟩
 .rcases j0 A with ⟨rfl,rfl⟩|⟨P,A⟩
  .rw[G]at hf;cases hf;exact⟨es,m,b,ws,rfl,l1,l2,pv m _ l3,bz,rv.mono I⟩
  .obtain⟨F,i,d,Q,X,Y,L,M,Z,y6⟩:=q.lst j g e J G A;exact⟨F,i,d,Q,X,Y,L,pv i j M,N _ _ (MG i n j d (λy=>P (by cases y;rfl)) M L) Z,y6.mono I⟩
 .rcases j0 A with ⟨rfl,rfl⟩|⟨P,A⟩
  .omega
  .obtain⟨F,i,d,X,Y,L,M,Z⟩:=q.om j g e J G A;exact⟨F,i,d,X,Y,L,pv i j M,N _ _ (MG i n j d (λy=>P (by cases y;rfl)) M L) Z⟩
def HR.US{p:Addr}{vs:List V}(hr:HR K H r h)(hp:H p=none)(n k:Nat):HR K (upd H p (.lst vs)) (r++[p]) (h++[.b9 n k]):=by
 have g:∀(j:Nat) o,(h++[O.b9 n k])[j]?=some o->h[j]?=some o\/(j=h.length/\o=.b9 n k):=λj o e=>by
  by_cases hj:j<h.length
  .rw[gV hj]at e;exact .inl e
  .have N:=(List.getElem?_eq_some_iff.mp e).1;simp only[ZX,aal]at N;have C:j=h.length:=by omega
   subst C;simp at e;exact .inr ⟨rfl,e.symm⟩
 have A:∀(j:Nat) b o,h[j]?=some o->(r++[p])[j]?=some b->r[j]?=some b:=λj b o e z=>by
  rw[gV (by rw[hr.len];exact(List.getElem?_eq_some_iff.mp e).1)]at z;exact z
 have G:∀b x,H b=some x->upd H p (.lst vs) b=some x:=kG hp;have I:Fm K r (r++[p]) H (upd H p (.lst vs)):=.laid hp;have X:∀b o,H b=some o->b≠p:=λb o e z=>by subst z;rw[hp]at e;cases e
 have last:∀b,(r++[p])[h.length]?=some b->b=p:=λb e=>by rw[<-hr.len]at e;simp at e;exact e.symm
 have l:∀(j:Nat) o b,vE o=true->h[j]?=some o->r[j]?=some b->b≠p:=λj o b w e z=>by
  cases o with
  |lst ds=>obtain⟨b',J,us,P,_⟩:=hr.ob j _ e;rw[z]at J;cases J;exact X _ _ P
  |b9 i kk=>obtain⟨b',o,J,P,_⟩:=hr.ox.pv j i kk e;rw[z]at J;cases J;exact X _ _ P
  |_=>cases w
 refine⟨by simp[hr.len],λj o e=>?_,λi j b x y Q N C L=>?_
  ,⟨λj c' es e=>?_,λm i k e=>?_,λm M b i k o F B f d Y=>?_,λi j b c1 d1 c2 d2 F B f d=>?_⟩⟩
 .rcases g j o e with e|⟨rfl,rfl⟩
  .obtain⟨b,Q,z⟩:=hr.ob j o e;exact⟨b,I.pre _ _ Q,z.mono I (λ_ _ _ w=>G _ _ w) (λ_ _ w=>G _ _ w)
    ⟩
  .exact⟨p,by rw[<-hr.len];simp,trivial⟩
 .rcases g i _ C with C|⟨_,q⟩
  .rcases g j _ L with L|⟨_,q⟩
   .exact hr.inj i j b x y (A _ _ _ C Q) (A _ _ _ L N) C L
   .cases q
  .cases q
 .rcases g j _ e with e|⟨_,q⟩
  .obtain⟨b,qe,gs,z⟩:=hr.ox.ob j c' es e;exact⟨b,qe,gs,z.go I.pre I.tups (λx w=>G _ _ w) (λm k w=>by rw[gV (List.getElem?_eq_some_iff.mp w).1];exact w) λm b k x w1 w2 w3=>G _ _ w3⟩
  .cases q
 .rcases g m _ e with e|⟨rfl,q⟩
  .obtain⟨b,o,F,B,f⟩:=hr.ox.pv m i k e;exact⟨b,o,I.pre _ _ F,G _ _ B,f⟩
  .exact⟨p,_,by rw[<-hr.len];simp,bz,.inl ⟨vs,rfl⟩⟩
 .rcases g m _ f with f|⟨rfl,_⟩
  .have Z:=A _ _ _ f F;rcases g M _ d with d|⟨rfl,_⟩
   .exact hr.ox.jp m M b i k o Z (A _ _ _ d B) f d Y
   .exact absurd (last b B) (l m _ b rfl f Z)
  .rcases g M _ d with d|⟨rfl,_⟩
   .exact absurd (last b F) (l M o b Y d (A _ _ _ d B))
   .rfl
 .rcases g i _ f with f|⟨_,q⟩
  .rcases g j _ d with d|⟨_,q⟩
   .exact hr.ox.jo i j b _ _ _ _ (A _ _ _ f F) (A _ _ _ d B) f d
   .cases q
  .cases q
def HR.UT{C:Addr}{f:List Nat}{p:Addr}(hr:HR K H r h)(hn:h[n]?=some (.obj c ds))(q:oh K H r h n c ds a dx fs)(hi:H a=some (.ins C dx fs))(hk:c.nv<=k/\k<c.nl)(hf:c.nm[k]?=some f)(hF:¬ ud (ay f))(hp:H p=none) :
  Fm K r (r++[p]) H (upd (upd H p (.lst [])) a (.ins C dx (bw (ay f) (.ref p) fs)))/\HR K (upd (upd H p (.lst [])) a (.ins C dx (bw (ay f) (.ref p) fs))) (r++[p]) (h.set n (.obj c (ds.set k (.tup [])))++[.b9 n k]):=by
 have X:=(List.getElem?_eq_some_iff.mp hn).1;have l:=hr.US (vs:=[]) hp n k;have f1:Fm K r (r++[p]) H (upd H p (.lst [])):=.laid hp;have N:a≠p:=λz=>by subst z;rw[hi]at hp;cases hp
 have d:upd H p (.lst []) a=some (.ins C dx fs):=by rw[aC N];exact hi
 have J:(h++[O.b9 n k])[n]?=some (.obj c ds):=by rw[gV X];exact hn
 have Y:Fm K (r++[p]) (r++[p]) (upd H p (.lst [])) (upd (upd H p (.lst [])) a (.ins C dx (bw (ay f) (.ref p) fs))):=.iw d (aaI _ (ZM q.at_)) hF;refine⟨f1.trans Y,?_⟩;have B:oh K (upd H p (.lst [])) (r++[p]) (h++[.b9 n k]) n c ds a dx fs:=q.go f1.pre f1.tups (λx w=>kG hp _ _ w) (λm k w=>by rw[gV (List.getElem?_eq_some_iff.mp w).1];exact w) λm b k x w1 w2 w3=>kG hp _ _ w3;have Z:∀b x,b≠a->upd H p (.lst []) b=some x->upd (upd H p (.lst [])) a (.ins C dx (bw (ay f) (.ref p) fs)) b=some x:=λb x z e=>by rw[aC z];exact e
 have es:h.set n (.obj c (ds.set k (.tup [])))++[O.b9 n k]=(h++[O.b9 n k]).set n (.obj c (ds.set k (.tup []))):=by rw[List.set_append_left _ _ X]
 have pv:∀m j:Nat,(h++[O.b9 n k])[m]?=some (.b9 n j)->((h++[O.b9 n k]).set n (O.obj c (ds.set k (.tup []))))[m]?=some (.b9 n j):=λm j e=>by rw[Kc (λz=>by subst z;rw[J]at e;cases e)];exact e
 have other:∀(j:Nat) g,c.nm[j]?=some g->j≠k->(bw (ay f) (.ref p) fs).lookup (ay g)=fs.lookup (ay g):=λj g e z=>by rw[bx,ZS (pD q.nd e hf z)]
 have lk:fs.lookup (ay f)≠none:=by
  have X:k<ds.length:=by rw[q.len];exact(List.getElem?_eq_some_iff.mp hf).1
  obtain⟨_,_,_,_,_,e,_⟩:=q.lst k f _ hk hf (Rx X);rw[e];intro z;cases z
 rw[es];refine l.R4 (a0:=a) (a:=a) (dx:=dx) (fs':=bw (ay f) (.ref p) fs) J Y Z (.inr λm i k e z=>l.ox.Gv d e z) (λj o b G F e3 e4=>?_) (λob vs z=>by rw[d]at z;cases z) (λn' c' ds' b z G F y=>z (l.ox.jo n' n a _ _ _ _ (y▸F) B.at_ G J)) (λj n' k b _ G F y=>?_) ⟨B.at_,?_,by simpa using B.len,by rw[ng lk];exact B.few,B.nd,λx hx=>?_,λj g e P I A=>?_,λj g e P I A=>?_,λj g e P I A=>?_⟩
 .intro y;subst y;obtain⟨b',e5,z⟩:=l.ob j o G;rw[e4]at e5;cases e5;cases o with
  |lst ds=>obtain⟨us,e6,_⟩:=z;rw[d]at e6;cases e6
  |bT ds=>exact e3 ds rfl
  |_=>cases F
 .subst y;exact l.ox.Gv d G F
 .obtain⟨C',G,F⟩:=B.ins;rw[d]at F;cases F;exact⟨_,G,bz⟩
 .rw[bx,ZS (λz=>hx (by rw[z];exact List.mem_map_of_mem (ZM hf)))];exact B.no x hx
 .rcases j0 A with ⟨rfl,rfl⟩|⟨Q,A⟩
  .omega
  .obtain⟨u,G,F⟩:=B.val j g e P I A;exact⟨u,by rw[other j g I Q];exact G,F.mono Y⟩
 .rcases j0 A with ⟨rfl,rfl⟩|⟨Q,A⟩
  .rw[I]at hf;cases hf;refine⟨[],h.length,p,[],rfl,by rw[bx,xC rfl],by rw[<-hr.len];simp,pv _ _ (by simp),?_,.nil⟩;rw[aC (λz=>N z.symm)];exact bz
  .obtain⟨L,m,b,vs,y1,y2,y3,y4,M,y6⟩:=B.lst j g e P I A;exact⟨L,m,b,vs,y1,by rw[other j g I Q];exact y2,y3,pv m j y4,Z _ _ (λz=>by subst z;rw[d]at M;cases M) M,y6.mono Y⟩
 .rcases j0 A with ⟨rfl,rfl⟩|⟨Q,A⟩
  .omega
  .obtain⟨L,m,b,y1,y2,y3,y4,M⟩:=B.om j g e P I A;exact⟨L,m,b,y1,by rw[other j g I Q];exact y2,y3,pv m j y4,Z _ _ (λz=>by subst z;rw[d]at M;cases M) M⟩
end
section
variable{G:Tb}{n:Nat}{sc:Scope}{N:List Str}{df:Bool}{m:List Nat}{a b:E}{xb:Expr}{pos pn apos:Pos}{c:Ev.Cl}{i k:Nat}{o:qa}{f x:Str}{fl:List Nat}
def oK{X:Cx}(g:Good G n sc N df X)(h:vB sc N m x i=true):∃j:Nat,m[j]?=some i/\PE X (.Name x pn) (sG j):=by
 unfold vB at h;simp only[ZJ,aaK,aau]at h;obtain⟨⟨⟨e,d⟩,l⟩,p⟩:=h;obtain⟨j,q,r⟩:=hasB.of e;exact⟨j,q,qL (i:=j) (by rw[g.nm];exact r) (g.vis (by rcases d with (d|d)|d;exact .inl (by simpa using d);exact .inr (.inl (by simpa using d));exact .inr (.inr (by simpa using d)))) l p⟩
def mL{ds es:List D}(e:Ev.mG c ds k=some es):(c.nv<=k/\k<c.nl)/\ds[k]?=some (.tup es):=by
 unfold Ev.mG at e;split at e
 .rename_i d;split at e
  .rename_i z;cases e;exact⟨d,z⟩
  .cases e
 .cases e
structure mP(G:Tb)(o:qa)(c:Ev.Cl)(k:Nat)(f:Str):Prop where
 ho:o∈G.oc
 hc:o.c=c
 hn:∃fl,c.nm[k]?=some fl/\f=ay fl
def MH(F:mP G o c k f)(h:vB sc N m x i=true)(hb:∀env:Env,attributeBase (.Name x pn) f env (eval (.Name x pn) env)=eval (.Name x pn) env:=by intro _;rfl):JE G n sc N df m (.fld c i k) (.Attribute (.Name x pn) f pos):=λX g=>by
 obtain⟨I,J,fl,p,K⟩:=F;subst J;subst K;obtain⟨C,l⟩:=g.oc o I;obtain⟨j,L,pv⟩:=oK (pn:=pn) g h;refine PE.of (qO pv (hb _)) λs H Q q=>?_;obtain⟨r,fr,h,d,h',M,y,e,q⟩:=q;simp only[Ev.ev]at e;split at e
 .rename_i nn ds z;split at e
  .rename_i P;obtain⟨W,rfl⟩:=Ev.aI e;obtain⟨Y,Z⟩:=gR z;obtain⟨v,y1,a,rfl,A⟩:=M.sl j i _ L Y;obtain⟨a',dx,fs,w⟩:=y.ox.ob nn _ ds Z;obtain⟨C',B,w2⟩:=w.ins;rw[l.ns]at B;cases B;obtain⟨u,w3,w4⟩:=w.val k fl d P p W;rw[w.at_]at A;cases A;exact⟨_,y1,a,_,dx,fs,u,rfl,w2,l.cl,l.no fl (ZM p),w3,q.here w4 y⟩
  .cases e
 .cases e
inductive R5(K:PySem.W.Frag)(m:List Nat)(c:Ev.Cl)(f:Str)(i k:Nat)(s:L2.St)(H:Hp)(Q:VK):Prop
 |mk (r:List Addr) (fr:Fr) (h:Hh) (n:Nat) (ds es:List D) (c0:SR K m H r fr s) (c1:HR K H r h) (c2:Ev.fT c h fr[i]?.join=some (n,ds)) (c3:Ev.mG c ds k=some es)
  (c4:∀(mm:Nat) b vs a dx fs,oh K H r h n c ds a dx fs->fs.lookup f=some (.ref b)->r[mm]?=some b->h[mm]?=some (.b9 n k)->H b=some (.lst vs)->aG K H r es vs->Q (.ref b) H):R5 K m c f i k s H Q
def pF(F:mP G o c k f)(h:vB sc N m x i=true)(hb:∀env:Env,attributeBase (.Name x pn) f env (eval (.Name x pn) env)=eval (.Name x pn) env){X:Cx}(g:Good G n sc N df X):PE X (.Attribute (.Name x pn) f pos) (R5 X.K m c f i k):=by
 obtain⟨B,I,fl,e,J⟩:=F;subst I;subst J;obtain⟨C,d⟩:=g.oc o B;obtain⟨j,L,pv⟩:=oK (pn:=pn) g h;refine PE.of (qO pv (hb _)) λs H Q q=>?_;obtain⟨r,fr,h,nn,ds,es,M,P,z,W,q⟩:=q;obtain⟨Y,Z⟩:=gR z;obtain⟨hk,zk⟩:=mL W;obtain⟨v,y1,a,rfl,l⟩:=M.sl j i _ L Y;obtain⟨a',p,fs,w⟩:=P.ox.ob nn _ ds Z;obtain⟨C',y,w2⟩:=w.ins;rw[d.ns]at y;cases y;obtain⟨es',mm,b,vs,w3,A,w5,w6,w7,w8⟩:=w.lst k fl _ hk e zk;cases w3;have y3:=w.at_;rw[y3]at l;cases l;exact⟨_,y1,a,_,p,fs,.ref b,rfl,w2,d.cl,d.no fl (ZM e),A,q mm b vs a p fs w A w5 w6 w7 w8⟩
def AD{P:aQ}{op:Ev.FU}{es:Es}{fr:Fr}{h h':Hh}{d:D}(e:Ev.ev P (.fu c op i k es) fr h=.ok d h'):∃n ds as h1 n1 jO xs,Ev.fT c h fr[i]?.join=some (n,ds)/\Ev.bq P es fr h=.ok as h1/\Ev.fT c h1 fr[i]?.join=some (n1,jO)/\Ev.mG c jO k=some xs/\Ev.BN op xs as h1=.ok d h':=by
 simp only[Ev.ev]at e;split at e
 .rename_i g;obtain⟨⟨n,ds⟩,g⟩:=Option.isSome_iff_exists.mp g;obtain⟨as,h1,j,e⟩:=Ev.ah e;split at e
  .rename_i n1 jO z;obtain⟨xs,q,l,y⟩:=Ev.ah e;obtain⟨p,rfl⟩:=Ev.aI l;exact⟨n,ds,as,_,n1,jO,xs,g,j,z,p,y⟩
  .cases e
 .cases e
def yN {p:Pos}(F:mP G o c k f) (h:vB sc N m x i=true) (hb:("len" : Str)∈G.bl:=by decide +kernel) (hg:sc.names.lookup ("len" : Str)=some .globalImplicit:=by rfl)
  (ha:∀env:Env,attributeBase (.Name x pn) f env (eval (.Name x pn) env)=eval (.Name x pn) env:=by intro _;rfl) (hst:∀env:Env,starEach [.Attribute (.Name x pn) f apos] env=(false,eval (.Attribute (.Name x pn) f apos) env) :: starEach [] env:=by intro _;rfl) :
  JE G n sc N df m (.fu c .len i k .nil) (.Call (.Name "len" p) [.Attribute (.Name x pn) f apos] [] pos):=λX g=>by
 refine PE.of (vv kE (g.gl hg) (g.bl _ hb) (by decide +kernel) (gy (pF F h ha g) gk (hst _)) (by decide) (by decide) (hst _) rfl) λs H Q q=>?_;obtain⟨r,y,P,d,W,z,j,e,q⟩:=q;obtain⟨n,ds,Y,Z,n1,A,B,e1,l,C,I,J⟩:=AD e;simp only[Ev.bq]at l;cases l;cases J;refine⟨r,y,_,n1,A,B,z,j,C,I,λmm b K a dx fs w l1 l2 l3 L M=>?_⟩;exact⟨b,K,rfl,.inl (.inl (.inl L)),by rw[M.length];exact q.here rfl j⟩
def yO(F:mP G o c k f)(h:vB sc N m x i=true)(ha:∀env:Env,attributeBase (.Name x pn) f env (eval (.Name x pn) env)=eval (.Name x pn) env:=by intro _;rfl)
  (hx:∀(env:Env) whole,isTrue (.Attribute (.Name x pn) f apos) env whole=(do let v <-whole;standAt (Expr.Attribute (.Name x pn) f apos).pos;holding [v] (truthy v)):=by intro _ _;rfl):JT G n sc N df m (.fu c .lF i k .nil) (.Attribute (.Name x pn) f apos):=λX g=>by
 refine PT.of (vn (pF F h ha g) (hx _)) λs H Q q=>?_;obtain⟨r,z,P,W,Y,A,j,e,q⟩:=q;simp only[Ev.aM]at e;obtain⟨d,Z,B,e⟩:=Ev.ah e;obtain⟨n,ds,as,h2,n1,C,l,e2,p,I,J,K⟩:=AD B;simp only[Ev.bq]at p;cases p;cases K;simp only[Ev.truthy]at e;cases e;refine⟨r,z,_,n1,C,l,A,j,I,J,λmm b y a dx fs w l1 l2 l3 L M=>⟨_,.inl ⟨y,.inl (.inl L),?_⟩,q H r j .refl⟩⟩;have hl:=M.length;cases l<;>cases y<;>simp_all
def Jh{j:Int}(F:mP G o c k f)(h:vB sc N m x i=true)(hp:∀X,PE X xb (tC (.int j)))(he:∀(P:aQ) fr h,Ev.ev P b fr h=.ok (.int j) h)(hs:sM xb:=by intro _ _;rfl)
  (ha:∀env:Env,attributeBase (.Name x pn) f env (eval (.Name x pn) env)=eval (.Name x pn) env:=by intro _;rfl):JE G n sc N df m (.fu c .ix i k (.cons b .nil)) (.Subscript (.Attribute (.Name x pn) f apos) xb pos):=λX g=>by
 refine PE.of (FT yp (pF F h ha g) (hp X) hs) λs H Q q=>?_;obtain⟨r,fr,Z,d,h',z,l,e,q⟩:=q;obtain⟨n,ds,as,h1,n1,A,B,e1,p,C,I,y⟩:=AD e;simp only[Ev.bq,he,Ev.ak]at p;cases p;simp only[Ev.BN]at y;obtain⟨J,rfl⟩:=Ev.aI y;refine⟨r,fr,_,n1,A,B,z,l,C,I,λmm b K a dx fs w l1 l2 l3 L M=>?_⟩;obtain⟨v,W,Y⟩:=M.bE J;exact⟨b,K,j,v,rfl,rfl,.inl (.inl L),W,q.here Y l⟩
def vZ{jj:Nat}{p1 p2:Pos}(F:mP G o c k f)(h:vB sc N m x i=true)(ha:∀env:Env,attributeBase (.Name x pn) f env (eval (.Name x pn) env)=eval (.Name x pn) env:=by intro _;rfl) :
  JE G n sc N df m (.fu c .ix i k (.cons (.neg (.c (.int 1))) .nil)) (.Subscript (.Attribute (.Name x pn) f apos) (.UnaryOp .USub (.Constant (.int 1) jj p1) p2) pos):=
 Jh F h (λX=>PE.of (FP Bw Bo) λs H Q q=>⟨1,rfl,q⟩) (λP d h=>by simp only[Ev.ev,Ev.ak]) (by intro _ _;rfl) ha
def fin_same{K:PySem.W.Frag}{H1 H2:Hp}{r1 r2:List Addr}{h h1:Hh}{nn:Nat}{ds jO es1:List D}{a1 dx b:Addr}{fs:List (Str×V)}(hr2:HR K H2 r2 h1)(z2:h1[nn]?=some (.obj c jO))(w:oh K H1 r1 h nn c ds a1 dx fs)(l:fs.lookup (ay fl)=some (.ref b))(hF:ud (ay fl))(f2:Fm K r1 r2 H1 H2)
  (hn:c.nm[k]?=some fl) (e:Ev.mG c jO k=some es1):∃(mm:Nat) (vs:List V) (qe:Addr) (fs':List (Str×V)),oh K H2 r2 h1 nn c jO a1 qe fs'/\fs'.lookup (ay fl)=some (.ref b)/\r2[mm]?=some b/\h1[mm]?=some (.b9 nn k)/\H2 b=some (.lst vs)/\aG K H2 r2 es1 vs:=by
 obtain⟨r,y⟩:=mL e;obtain⟨J,qe,fs',d⟩:=hr2.ox.ob nn c jO z2;have z:=f2.pre _ _ w.at_;have g:=d.at_;rw[z]at g;cases g;obtain⟨C,_,i1⟩:=w.ins;obtain⟨C',_,i2⟩:=d.ins;obtain⟨L,j,p⟩:=f2.fin a1 C dx fs i1;rw[i2]at j;cases j;obtain⟨M,mm,P,vs,A,q,B,F,H,I⟩:=d.lst k fl _ r hn y;cases A;rw[p _ hF,l]at q;cases q;exact⟨mm,vs,_,_,d,by rw[p _ hF];exact l,B,F,H,I⟩
def QY{K:PySem.W.Frag}{H:Hp}{r:List Addr}{h:Hh}{nn:Nat}{ds:List D}(hr:HR K H r h)(z2:h[nn]?=some (.obj c ds))(hk:c.nv<=k/\k<c.nl)(hn:c.nm[k]?=some fl):∃es,Ev.mG c ds k=some es:=by
 obtain⟨a,g,fs,w⟩:=hr.ox.ob nn c ds z2;have d:k<ds.length:=by rw[w.len];exact(List.getElem?_eq_some_iff.mp hn).1
 obtain⟨es,_,_,_,e,_⟩:=w.lst k fl _ hk hn (Rx d);exact⟨es,by unfold Ev.mG;rw[xC hk,Rx d,e]⟩
def Ji{e0:Expr}{p2:Pos}(F:mP G o c k f)(hF:ud f)(h:vB sc N m x i=true)(hb:JE G n sc N df m b e0)(ha:∀env:Env,attributeBase (.Name x pn) f env (eval (.Name x pn) env)=eval (.Name x pn) env:=by intro _;rfl)
  (hbase:∀env:Env,attributeBase (.Attribute (.Name x pn) f apos) "append" env (eval (.Attribute (.Name x pn) f apos) env)=eval (.Attribute (.Name x pn) f apos) env:=by intro _;rfl)
  (hfew:∀env:Env,((backTo pos (starEach [e0] env)).all (λx=>!x.1)&&(backToKw pos (keywordEach [] env)).all (λx=>x.1.isSome)
   &&decide ([e0].length+([]:List Keyword).length+(if ([]:List Keyword).isEmpty then 0 else 1)<30))=true:=by intro _;rfl)
  (hline:(p2.endLine==pos.line)=true:=by rfl) (hst:∀env:Env,starEach [e0] env=(false,eval e0 env) :: starEach [] env:=by intro _;rfl) :
  JE G n sc N df m (.fm c .app i k (.cons b .nil)) (.Call (.Attribute (.Attribute (.Name x pn) f apos) "append" p2) [e0] [] pos):=λX g=>by
 have F':=F;obtain⟨_,_,fl,C,rfl⟩:=F;refine PE.of (Aa aaw abl abk lD (pF F' h ha g) (gy (hb X g) gk (hst _)) (hbase _) (hfew _) hline (hst _) rfl) λs H Q q=>?_;obtain⟨r,K,hh,d,h',L,I,e,q⟩:=q;simp only[Ev.ev]at e;split at e
 case isFalse=>cases e
 rename_i A;obtain⟨⟨nn,ds⟩,A⟩:=Option.isSome_iff_exists.mp A;obtain⟨as,h1,j,e⟩:=Ev.ah e;split at e
 case h_2=>cases e
 rename_i n1 jO z;obtain⟨p,h2,Z,y⟩:=Ev.ah e;obtain⟨y2,rfl⟩:=Ev.aI Z;obtain⟨xs,J,B⟩:=Option.bind_eq_some_iff.mp y2;simp only[Ev.bq]at j;obtain⟨d1,h3,e3,j⟩:=Ev.ah j;simp only[Ev.ak]at j;cases j;obtain⟨z1,z2⟩:=gR A;obtain⟨M,P⟩:=gR z;rw[z1]at M;cases M;simp only[Ev.BO]at B;split at B
 case isFalse=>cases B
 rename_i hz;cases B;cases y;obtain⟨es,e4⟩:=QY I z2 (mL J).1 C;refine⟨r,K,_,nn,ds,es,L,I,A,e4,λmm b vs a dx fs w l1 l2 l3 l4 l5=>⟨.inl ⟨rfl,vs,.inl (.inl l4)⟩,?_⟩⟩;refine⟨r,K,_,d1,_,L,I,e3,λv H2 r2 v2 l f2=>?_⟩;obtain⟨R6,mK,Wf,Lq,w2,k1,k2,k3,W,Y⟩:=fin_same l P w l1 hF f2 C J;refine⟨b,mK,v,rfl,rfl,W,by rw[Y.length,<-gQ];exact hz,?_⟩;obtain⟨g1,g2⟩:=l.Er P w2 (mL J).1 C k1 k2 k3 W (Y.append (.cons v2 .nil));exact q _ _ r2 rfl g2 (f2.trans g1)
def Gw{j:Nat}{f2:Str}{o2:qa}{fk lK p2 p3 p4:Pos}(F:mP G o c k f)(F2:mP G o2 c j f2)(h:vB sc N m x i=true)(ha:∀env:Env,attributeBase (.Name x pn) f env (eval (.Name x pn) env)=eval (.Name x pn) env:=by intro _;rfl)(ha2:∀env:Env,attributeBase (.Name x fk) f2 env (eval (.Name x fk) env)=eval (.Name x fk) env:=by intro _;rfl)
  (hbase:∀env:Env,attributeBase (.Attribute (.Name x pn) f apos) "append" env (eval (.Attribute (.Name x pn) f apos) env)=eval (.Attribute (.Name x pn) f apos) env:=by intro _;rfl)
  (MI:∀env:Env,attributeBase (.Attribute (.Name x fk) f2 lK) "pop" env (eval (.Attribute (.Name x fk) f2 lK) env)=eval (.Attribute (.Name x fk) f2 lK) env:=by intro _;rfl) (MJ:(p3.endLine==p4.line)=true:=by rfl)
  (hfew:∀env:Env,((backTo pos (starEach [.Call (.Attribute (.Attribute (.Name x fk) f2 lK) "pop" p3) [] [] p4] env)).all (λx=>!x.1)&&(backToKw pos (keywordEach [] env)).all (λx=>x.1.isSome)
   &&decide ([Expr.Call (.Attribute (.Attribute (.Name x fk) f2 lK) "pop" p3) [] [] p4].length+([]:List Keyword).length+(if ([]:List Keyword).isEmpty then 0 else 1)<30))=true:=by intro _;rfl)
  (hline:(p2.endLine==pos.line)=true:=by rfl) (hst:∀env:Env,starEach [.Call (.Attribute (.Attribute (.Name x fk) f2 lK) "pop" p3) [] [] p4] env=(false,eval (.Call (.Attribute (.Attribute (.Name x fk) f2 lK) "pop" p3) [] [] p4) env) :: starEach [] env:=by intro _;rfl) :
  JE G n sc N df m (.mv c i k j) (.Call (.Attribute (.Attribute (.Name x pn) f apos) "append" p2) [.Call (.Attribute (.Attribute (.Name x fk) f2 lK) "pop" p3) [] [] p4] [] pos):=λX g=>by
 have F':=F;have Wg:=F2;obtain⟨_,_,fl,hn,rfl⟩:=F;obtain⟨_,_,XY,L,rfl⟩:=F2;refine PE.of (Aa aaw abl abk lD (pF F' h ha g) (gy (BF aaw acm ack BH (pF Wg h ha2 g) (MI _) MJ) gk (hst _)) (hbase _) (hfew _) hline (hst _) rfl) λs H Q q=>?_;obtain⟨r,fr,hh,d,h',sr,B,e,q⟩:=q;simp only[Ev.ev]at e;split at e
 case h_2=>cases e
 rename_i nn ds M;obtain⟨ds',h2,e2,y⟩:=Ev.ah e;obtain⟨l,rfl⟩:=Ev.aI e2;cases y;unfold Ev.FZ at l;obtain⟨xs,y3,l⟩:=Option.bind_eq_some_iff.mp l;obtain⟨p,y4,l⟩:=Option.bind_eq_some_iff.mp l;split at l
 case h_2=>cases l
 rename_i yv hy;split at l
 case isFalse=>cases l
 rename_i hz;cases l;obtain⟨z1,P⟩:=gR M;refine⟨r,fr,_,nn,ds,xs,sr,B,M,y3,λmm b W a dx fs w l1 l2 A l4 l5=>⟨.inl ⟨rfl,W,.inl (.inl l4)⟩,?_⟩⟩;refine⟨r,fr,_,nn,ds,p,sr,B,M,y4,λR6 I J a2 Wf Lq w' n1 n2 n3 n4 n5=>⟨.inl ⟨rfl,J,.inl (.inl n4)⟩,?_⟩⟩;obtain⟨vy,g4,g5⟩:=n5.get hy;refine⟨I,J,vy,rfl,rfl,n4,by rw[n5.length];exact g4,?_⟩;have hd:aG X.K H r p.dropLast J.dropLast:=by
  rw[aaD,aaD,n5.length];exact n5.take _
 obtain⟨Y,g2⟩:=B.Er P w' (mL y4).1 L n1 n2 n3 n4 hd;have hl:=(List.getElem?_eq_some_iff.mp P).1;have R7:(h2.set nn (O.obj c (ds.set j (.tup p.dropLast))))[nn]?=some (.obj c (ds.set j (.tup p.dropLast))):=ZP hl;have hb:b≠I:=λz=>by
  subst z;have:=B.ox.jp mm R6 b nn k _ l2 n2 A n3 rfl;subst this;rw[A]at n3;cases n3;exact hz.2 rfl
 obtain⟨a3,XZ,X0,Z⟩:=g2.ox.ob nn c _ R7;have ya:=w.at_;have yb:=Z.at_;rw[ya]at yb;cases yb;obtain⟨C,_,i1⟩:=w.ins;obtain⟨C',_,i2⟩:=Z.ins;have Wh:a≠I:=λz=>by subst z;rw[i1]at n4;cases n4
 rw[aC Wh,i1]at i2;cases i2;have R8:upd H I (.lst J.dropLast) b=some (.lst W):=by rw[aC hb];exact l4
 have Wi:(h2.set nn (O.obj c (ds.set j (.tup p.dropLast))))[mm]?=some (.b9 nn k):=by rw[Kc (λz=>by subst z;rw[P]at A;cases A)];exact A
 refine⟨b,W,vy,rfl,rfl,R8,by rw[l5.length,<-gQ];exact hz.1,?_⟩;obtain⟨g3,g6⟩:=g2.Er R7 Z (mL y3).1 hn l1 l2 Wi R8 ((l5.mono Y).append (.cons (g5.mono Y) .nil));rw[List.set_set]at g6;exact q _ _ r rfl g6 (Y.trans g3)
def MK{p1 pos':Pos}(F:mP G o c k f)(hF:¬ ud f)(h:vB sc N m x i=true)(hs:∀env:Env,swapsWith (.List [] p1) (some (.Attribute (.Name x pn) f pos')) pos.line env=pure false:=by intro _;rfl):JS G n sc N df m (.pZ c i k) (.Assign [.Attribute (.Name x pn) f pos'] (.List [] p1) pos):=λX g=>by
 obtain⟨W,Y,fl,A,Z⟩:=F;subst Y;subst Z;obtain⟨C,l⟩:=g.oc o W;obtain⟨j,hj,pv⟩:=oK (pn:=pn) g h;refine PS.of (nY pv (vp gk) (hs _)) λQ s H q=>?_;obtain⟨r,fr,hh,X3,aj,h',B,I,e,q⟩:=q;simp only[Ev.fj]at e;split at e
 case h_2=>cases e
 rename_i nn ds z;split at e
 case isFalse=>cases e
 rename_i hk;cases e;obtain⟨z1,J⟩:=gR z;refine⟨by show 0<=sizeLine;omega,λp K=>?_⟩;obtain⟨v,y1,a,rfl,L⟩:=B.sl j i _ hj z1;obtain⟨a',dx,fs,w⟩:=I.ox.ob nn _ ds J;obtain⟨C',M,d⟩:=w.ins;rw[l.ns]at M;cases M;have y3:=w.at_;rw[y3]at L;cases L;obtain⟨P,g2⟩:=I.UT J w d hk.1 A hF K;exact⟨_,y1,a,_,dx,fs,rfl,by rw[aC (λy=>by subst y;rw[K]at d;cases d)];exact d,l.cl,l.no fl (ZM A),w.few,q _ _ _ (B.mono P) g2 P⟩
def Cq{f' ff:Nat}{mn:Str}{es:Es}{e0:Expr}{xs:List Expr}{pl:Env->Sem Bool}(ho:o∈G.oc)(hc:o.c=c)(hm:(mn,f')∈o.ms)(hf:ff=G.fi.length+f')(h:vB sc N m x i=true)(hs:JA G n sc N df m es (e0 :: xs))
  (hst:∀env:Env,starEach (e0 :: xs) env=(false,eval e0 env) :: starEach xs env:=by intro _;rfl) (hpl:∀env:Env,(backTo pos (starEach xs env)).any (·.1)=false:=by intro _;rfl)
  (ht:∀env:Env,eval (.Call (.Attribute (.Name x pn) mn apos) (e0 :: xs) [] pos) env=(do
   let ov <-eval (.Name x pn) env
   standAt apos.atName
   let (f,first) <-holding [ov] (getMethod ov mn (pl env))
   callWith pos f first (backTo pos (starEach (e0 :: xs) env)) (backToKw pos (keywordEach [] env))):=by intro _;rfl) :
  JE G n sc N df m (.bJ c ff (.cons (.v i) es)) (.Call (.Attribute (.Name x pn) mn apos) (e0 :: xs) [] pos):=λX g=>by
 subst hc;subst hf;obtain⟨C,oc⟩:=g.oc o ho;obtain⟨fi,P,W,Y⟩:=oc.ms _ hm;obtain⟨k1,Z,k3⟩:=g.mt f' fi P;obtain⟨j,hj,pv⟩:=oK (pn:=pn) g h;refine PE.of (Ik (pl:=pl X.env) pv oc.cl W k3 g.room Z .nil qR (hs X g) (hst _) (hpl _) (ht _)) λs H Q q=>?_;obtain⟨r,fr,hh,d,h',A,B,e,q⟩:=q;simp only[Ev.ev]at e;split at e
 case isFalse=>cases e
 rename_i l;simp only[Ev.sP]at l;obtain⟨⟨nn,ds⟩,l⟩:=Option.isSome_iff_exists.mp l;obtain⟨F,z2⟩:=gR l;obtain⟨as,h1,p,e⟩:=Ev.ah e;simp only[Ev.bq,Ev.ev,F,Option.join,Option.bind,id,Ev.bQ,Ev.ak]at p;obtain⟨y,h2,e2,p⟩:=Ev.ah p;cases p;obtain⟨v,y1,a,rfl,I⟩:=A.sl j i _ hj F;obtain⟨a',dx,fs,w⟩:=B.ox.ob nn _ ds z2;obtain⟨C',J,w2⟩:=w.ins;rw[oc.ns]at J;cases J;have L:=w.at_;rw[L]at I;cases I;refine⟨_,y1,a,dx,fs,rfl,w2,w.no _ Y,r,fr,hh,y,_,A,B,e2,λvs H1 M v1 z f1=>?_⟩;exact⟨M,_,_,d,h',.cons (show RV X.K H1 M (.ref nn) (.ref a)from ⟨a,rfl,f1.pre _ _ L⟩) (by rw[aaf];exact v1),z,e,q.later f1⟩
def jd{f' ff:Nat}{mn:Str}{pl:Env->Sem Bool}(ho:o∈G.oc)(hc:o.c=c)(hm:(mn,f')∈o.ms)(hf:ff=G.fi.length+f')(h:vB sc N m x i=true)
  (ht:∀env:Env,eval (.Call (.Attribute (.Name x pn) mn apos) [] [] pos) env=(do
   let ov <-eval (.Name x pn) env
   standAt apos.atName
   let (f,first) <-holding [ov] (getMethod ov mn (pl env))
   callWith pos f first (backTo pos (starEach [] env)) (backToKw pos (keywordEach [] env))):=by intro _;rfl) :
  JE G n sc N df m (.bJ c ff (.cons (.v i) .nil)) (.Call (.Attribute (.Name x pn) mn apos) [] [] pos):=λX g=>by
 subst hc;subst hf;obtain⟨C,oc⟩:=g.oc o ho;obtain⟨fi,I,J,L⟩:=oc.ms _ hm;obtain⟨k1,M,P⟩:=g.mt f' fi I;obtain⟨j,W,pv⟩:=oK (pn:=pn) g h;refine PE.of (DS (pl:=pl X.env) pv oc.cl J P g.room M .nil qR (ht _)) λs H Q q=>?_;obtain⟨r,fr,hh,d,Y,Z,p,e,q⟩:=q;simp only[Ev.ev]at e;split at e
 case isFalse=>cases e
 rename_i l;simp only[Ev.sP]at l;obtain⟨⟨nn,ds⟩,l⟩:=Option.isSome_iff_exists.mp l;obtain⟨y,z2⟩:=gR l;obtain⟨as,h1,z,e⟩:=Ev.ah e;simp only[Ev.bq,Ev.ev,y,Option.join,Option.bind,id,Ev.bQ,Ev.ak]at z;cases z;obtain⟨v,y1,a,rfl,A⟩:=Z.sl j i _ W y;obtain⟨a',dx,fs,w⟩:=p.ox.ob nn _ ds z2;obtain⟨C',B,w2⟩:=w.ins;rw[oc.ns]at B;cases B;have F:=w.at_;rw[F]at A;cases A;exact⟨_,y1,a,dx,fs,rfl,w2,w.no _ L,r,_,_,d,Y,.cons (show RV X.K H r (.ref nn) (.ref a)from ⟨a,rfl,F⟩) (by simp[aG]),p,e,q⟩
end
inductive Et(K:PySem.W.Frag)(ks:List (Str×IK))(Q:Ends)(s:L2.St)(H:Hp):Prop
 |mk (x C dx:Addr) (as:List V) (fs:List (Str×V)) (c0:s=(V.ref x :: as).map some) (c1:H x=some (.ins C dx fs)) (c2:mE K C) (c3:∀p∈ks,fR K C p.1) (c4:fs.length+ks.length<1000) (c5:nc x C dx as ks H fs λH'=>Q.nx s H'):Et K ks Q s H
def v5(sc:Scope)(N:List Str)(ks:List (Str×IK))(xs:List Stmt):Prop:=∀X:Cx,X.N=N->X.env.scope=sc->gf X xs (Et X.K ks)
section
variable{sc:Scope}{N:List Str}{ks:List (Str×IK)}{xs:List Stmt}{f y:Str}{p1 p2 p3 pos:Pos}{j:Nat}
def Jj:v5 sc N [] []:=λX _ _=>gf.of sH λQ s H q=>by
 obtain⟨x,C,b,c,fs,d,e,g,h,i,a⟩:=q;exact a
noncomputable def Cr (sc:Scope) (N:List Str) (y:Str) (j:Nat):Bool:=N[j]?==some y&&(sc.names.lookup y==some .local)&&!(y==("__debug__" : Str))&&!(y==("__classdict__" : Str))
def Eu{X:Cx}(hN:X.N=N)(hS:X.env.scope=sc)(h:Cr sc N y j=true):PE X (.Name y p1) (sG j):=by
 unfold Cr at h;simp only[ZJ,aaK]at h;exact qL (by rw[hN];simpa using h.1.1.1) (by rw[hS];exact .inl (by simpa using h.1.1.2)) h.1.2 h.2
def Cs{K:PySem.W.Frag}{x C dx:Addr}{as:List V}{fs:List (Str×V)}{ik:IK}{H:Hp}{Q:Ends}{v:V}(c2:mE K C)(c3:∀p∈(f,ik) :: ks,fR K C p.1)(c4:fs.length+((f,ik) :: ks).length<1000)(c5:nc x C dx as ks (upd H x (.ins C dx (bw f v fs))) (bw f v fs) λH'=>Q.nx ((V.ref x :: as).map some) H') :
  Et K ks Q ((V.ref x :: as).map some) (upd H x (.ins C dx (bw f v fs))):=
 ⟨x,C,dx,as,bw f v fs,rfl,bz,c2,λp a=>c3 p (ZY _ a),by have:=fV f v fs;simp only[ZU]at c4;omega,c5⟩
def Jk (h0:Cr sc N ("self" : Str) 0=true) (h1:Cr sc N y (j+1)=true) (hr:v5 sc N ks xs) (hs:∀env:Env,swapsWith (.Name y p3) (some (.Attribute (.Name "self" p1) f p2)) pos.line env=pure false:=by intro _;rfl):v5 sc N ((f,.arg j) :: ks) (.Assign [.Attribute (.Name "self" p1) f p2] (.Name y p3) pos :: xs):=λX a b=>by
 refine gf.of (gZ (nY (Eu a b h0) (Eu a b h1) (hs _)) (hr X a b)) λQ s H q=>?_;obtain⟨x,C,e,o,fs,g,h,c,d,i,v,k,l⟩:=q;subst g;exact⟨v,by simp[k],.ref x,rfl,x,C,e,fs,rfl,h,c,d _ (aai ..),by omega,Cs c d i l⟩
def Ct (h0:Cr sc N ("self" : Str) 0=true) (hr:v5 sc N ks xs) (hs:∀env:Env,swapsWith (.List [] p3) (some (.Attribute (.Name "self" p1) f p2)) pos.line env=pure false:=by intro _;rfl):v5 sc N ((f,.lst []) :: ks) (.Assign [.Attribute (.Name "self" p1) f p2] (.List [] p3) pos :: xs):=λX a b=>by
 refine gf.of (gZ (nY (Eu a b h0) (vp gk) (hs _)) (hr X a b)) λQ s H q=>?_;obtain⟨x,C,h,r,fs,i,c,d,e,k,z,l,A,o⟩:=q;subst i;cases l;refine⟨by show 0<=sizeLine;omega,λp g=>?_⟩;exact⟨.ref x,rfl,x,C,h,fs,rfl,by rw[aC (bA c g)];exact c,d,e _ (aai ..),by omega,Cs d e k (o p g)⟩
def ML {P:Program}{w:World}{K:PySem.W.Frag}{mg:Str->Option Value}{base:Heap}{o:qa}{C:Addr}{qual:Str}{st:Stmt}(F:qS K "__init__" qual st o.ini.addr o.ini.fd) (S:bg o.ini.ps o.ini.ps (aK st)) (ns:PySem.W.nsIn K mainGlobals (ay o.c.cn)=some (some (.ref C))) (cl:mE K C) (no:∀f∈o.c.nm,fR K C (ay f))
  (hl:0<o.ini.ps.length) (hk:(jJ o.c 0 o.c.nm o.tp).length<1000) (hm:∀p∈jJ o.c 0 o.c.nm o.tp,∃f∈o.c.nm,p.1=ay f) (hb:v5 (aK st) o.ini.ps (jJ o.c 0 o.c.nm o.tp) (fW st)) (k:Nat):fB P w K mg base lE (k+1) o.ini.addr o.ini.fd o.ini.ps (RN K o (o.ini.ps.length - 1)):=by
 refine F.ok S (λi H Q E h=>?_) (λl A a s H i Q E I h=>?_)
 .obtain⟨x,C',d,b,rfl,e,_⟩:=h;simp only[ZU];omega
 .obtain⟨x,C',d,b,rfl,e,g,q,r⟩:=h;rw[ns]at g;cases g;refine⟨_,hb _ rfl rfl,x,_,d,b,[],?_,q,cl,λp z=>?_,by simpa using hk,r⟩
  .unfold L2.start;rw[show o.ini.ps.length - (V.ref x :: b).length=0 by simp only[ZU];omega];simp
  .obtain⟨f,B,G⟩:=hm p z;rw[G];exact no f B
end
noncomputable def lY(c:Ev.Cl):Nat->List Ev.TP->Bool
 |_,[]=>true
 |k,.a _ :: r=>decide (k<c.nv)&&lY c (k+1) r
 |k,.t _ :: r=>decide (c.nv<=k/\k<c.nl)&&lY c (k+1) r
 |k,.c d :: r=>(match d with
   |.int _=>decide (k<c.nv)
   |.aV=>decide (k<c.nv)
   |.tup []=>decide (c.nv<=k)
   |_=>false)&&lY c (k+1) r
structure gK(K:PySem.W.Frag)(H1:Hp)(r1:List Addr)(c:Ev.Cl)(x C dx:Addr)(ds:List D)(k:Nat)(Hk:Hp)(fs:List (Str×V))(ps:List Addr):Prop where
 more:∀b o,H1 b=some o->Hk b=some o
 x0:H1 x=none
 ax:Hk x=some (.ins C dx fs)
 few:fs.length<=k
 no:∀y,y∉(c.nm.take k).map ay->fs.lookup y=none
 val:∀(j:Nat) f d,j<k->j<c.nv->c.nm[j]?=some f->ds[j]?=some d->∃v,fs.lookup (ay f)=some v/\RV K H1 r1 d v
 lst:∀(j:Nat) f d,j<k->c.nv<=j/\j<c.nl->c.nm[j]?=some f->ds[j]?=some d->∃es b us,d=.tup es/\fs.lookup (ay f)=some (.ref b)/\ps[j - c.nv]?=some b/\Hk b=some (.lst us)/\aG K H1 r1 es us
 om:∀(j:Nat) f d,j<k->c.nv<=j/\c.nl<=j->c.nm[j]?=some f->ds[j]?=some d->∃b,d=.tup []/\fs.lookup (ay f)=some (.ref b)/\ps[j - c.nv]?=some b/\Hk b=some (.dK [])
 pl:ps.length=k - c.nv
 pf:∀b∈ps,H1 b=none/\b≠x/\∃o,Hk b=some o/\Ag o
 nd:ps.Nodup
section
variable{K:PySem.W.Frag}{H1 Hk:Hp}{r1:List Addr}{c:Ev.Cl}{x C dx:Addr}{ds:List D}{k:Nat}{fs:List (Str×V)}{ps:List Addr}{f:List Nat}{d:D}{h1:Hh}
def yP{y:Str}(hf:c.nm[k]?=some f)(hy:y∉(c.nm.take (k+1)).map ay):y≠ay f/\y∉(c.nm.take k).map ay:=by
 rw[List.take_succ,hf]at hy;simp only[Option.toList_some,ZZ,ZT,abW,List.mem_append,Z8,not_or]at hy;exact⟨hy.2,hy.1⟩
def gK.value{v:V}(q:gK K H1 r1 c x C dx ds k Hk fs ps)(nd:c.nm.Nodup)(hk:k<c.nv)(hf:c.nm[k]?=some f)(hd:ds[k]?=some d)(rv:RV K H1 r1 d v):gK K H1 r1 c x C dx ds (k+1) (upd Hk x (.ins C dx (bw (ay f) v fs))) (bw (ay f) v fs) ps:=by
 have other:∀(j:Nat) g,c.nm[j]?=some g->j<k->(bw (ay f) v fs).lookup (ay g)=fs.lookup (ay g):=λj g e z=>by rw[bx,ZS (pD nd e hf (by omega))]
 have B:∀b o,b≠x->Hk b=some o->upd Hk x (.ins C dx (bw (ay f) v fs)) b=some o:=λb o z e=>by rw[aC z];exact e
 refine⟨λb o e=>B b o (λz=>by subst z;rw[q.x0]at e;cases e) (q.more b o e),q.x0,bz,by have:=fV (ay f) v fs;have:=q.few;omega,λy G=>?_,λj g e F r a i=>?_,λj g e F r a i=>?_,λj g e F r a i=>?_,by have:=q.pl;omega,λb H=>?_,q.nd⟩
 .obtain⟨l,h⟩:=yP hf G;rw[bx,ZS l];exact q.no y h
 .by_cases I:j=k
  .subst I;rw[hf]at a;rw[hd]at i;cases a;cases i;exact⟨v,by rw[bx,xC rfl],rv⟩
  .rw[other j g a (by omega)];exact q.val j g e (by omega) r a i
 .obtain⟨J,b,L,l,h,p,A,M⟩:=q.lst j g e (by omega) r a i;exact⟨J,b,L,l,by rw[other j g a (by omega)];exact h,p,B _ _ (q.pf b (ZM p)).2.1 A,M⟩
 .obtain⟨b,l,h,p,A⟩:=q.om j g e (by omega) r a i;exact⟨b,l,by rw[other j g a (by omega)];exact h,p,B _ _ (q.pf b (ZM p)).2.1 A⟩
 .obtain⟨l,h,o,p,A⟩:=q.pf b H;exact⟨l,h,o,B _ _ h p,A⟩
def gK.b9{p:Addr}{o:HO}(q:gK K H1 r1 c x C dx ds k Hk fs ps)(nd:c.nm.Nodup)(hk:c.nv<=k)(hf:c.nm[k]?=some f)(hp:Hk p=none)(ho:Ag o)(hl:k<c.nl->∃es us,ds[k]?=some (.tup es)/\o=.lst us/\aG K H1 r1 es us)(hd:c.nl<=k->ds[k]?=some (.tup [])/\o=.dK []) :
  gK K H1 r1 c x C dx ds (k+1) (upd (upd Hk p o) x (.ins C dx (bw (ay f) (.ref p) fs))) (bw (ay f) (.ref p) fs) (ps++[p]):=by
 have other:∀(j:Nat) g,c.nm[j]?=some g->j<k->(bw (ay f) (.ref p) fs).lookup (ay g)=fs.lookup (ay g):=λj g e z=>by rw[bx,ZS (pD nd e hf (by omega))]
 have P:p≠x:=λz=>by subst z;rw[q.ax]at hp;cases hp
 have L:∀b l,b≠x->Hk b=some l->upd (upd Hk p o) x (.ins C dx (bw (ay f) (.ref p) fs)) b=some l:=λb l z e=>by rw[aC z,aC (λy=>by subst y;rw[hp]at e;cases e)];exact e
 have G:upd (upd Hk p o) x (.ins C dx (bw (ay f) (.ref p) fs)) p=some o:=by rw[aC P];exact bz
 have M:H1 p=none:=by
  cases e:H1 p with
  |none=>rfl
  |some o=>rw[q.more p o e]at hp;cases hp
 have I:∀(j:Nat) b,ps[j]?=some b->(ps++[p])[j]?=some b:=λj b e=>by rw[gV (List.getElem?_eq_some_iff.mp e).1];exact e
 have last:(ps++[p])[k - c.nv]?=some p:=by rw[<-q.pl];simp
 have UU:p∉ps:=λz=>by obtain⟨_,_,l,e,_⟩:=q.pf p z;rw[hp]at e;cases e
 refine⟨λb l e=>L b l (λz=>by subst z;rw[q.x0]at e;cases e) (q.more b l e),q.x0,bz,by have:=fV (ay f) (.ref p) fs;have:=q.few;omega,λy X=>?_,λj g e Q H h r=>?_,λj g e Q H h r=>?_,λj g e Q H h r=>?_,by have:=q.pl;simp only[ZX,aal];omega,λb A=>?_,?_⟩
 .obtain⟨i,F⟩:=yP hf X;rw[bx,ZS i];exact q.no y F
 .rw[other j g h (by omega)];exact q.val j g e (by omega) H h r
 .by_cases N:j=k
  .subst N;rw[hf]at h;cases h;obtain⟨es,us,i,rfl,B⟩:=hl H.2;rw[i]at r;cases r;exact⟨es,p,us,rfl,by rw[bx,xC rfl],last,G,B⟩
  .obtain⟨es,b,us,i,F,B,J,Y⟩:=q.lst j g e (by omega) H h r;exact⟨es,b,us,i,by rw[other j g h (by omega)];exact F,I _ _ B,L _ _ (q.pf b (ZM B)).2.1 J,Y⟩
 .by_cases N:j=k
  .subst N;rw[hf]at h;cases h;obtain⟨i,rfl⟩:=hd H.2;rw[i]at r;cases r;exact⟨p,rfl,by rw[bx,xC rfl],last,G⟩
  .obtain⟨b,i,F,B,J⟩:=q.om j g e (by omega) H h r;exact⟨b,i,by rw[other j g h (by omega)];exact F,I _ _ B,L _ _ (q.pf b (ZM B)).2.1 J⟩
 .rcases List.mem_append.mp A with A|A
  .obtain⟨i,F,l,B,J⟩:=q.pf b A;exact⟨i,F,l,L _ _ F B,J⟩
  .rw[Z8]at A;subst A;exact⟨M,P,o,G,ho⟩
 .rw[List.nodup_append];exact⟨q.nd,by simp,λa Z b A z=>by rw[Z8]at A;subst A;subst z;exact UU Z⟩
theorem v8:∀{n lo t j:Nat}{o:O},(Ev.eN n lo t)[j]?=some o->o=.b9 n (lo+j)/\j<t
 |_,_,0,_,_,e=>by simp[Ev.eN]at e
 |n,lo,t+1,0,o,e=>by simp[Ev.eN]at e;exact⟨e.symm,by omega⟩
 |n,lo,t+1,j+1,o,e=>by
  obtain⟨a,b⟩:=v8 (n:=n) (lo:=lo+1) (t:=t) (j:=j) (by simpa[Ev.eN]using e);exact⟨by rw[a];congr 1;omega,by omega⟩
theorem yQ:∀{n lo t j:Nat},j<t->(Ev.eN n lo t)[j]?=some (.b9 n (lo+j))
 |_,_,0,_,h=>absurd h (by omega)
 |n,lo,t+1,0,_=>by simp[Ev.eN]
 |n,lo,t+1,j+1,h=>by
  have:=yQ (n:=n) (lo:=lo+1) (t:=t) (j:=j) (by omega);rw[show lo+1+j=lo+(j+1)by omega]at this;simpa[Ev.eN]using this
theorem v9:∀{n lo t:Nat},(Ev.eN n lo t).length=t
 |_,_,0=>rfl
 |n,lo,t+1=>by simp[Ev.eN,v9 (n:=n) (lo:=lo+1) (t:=t)]
def gK.done(q:gK K H1 r1 c x C dx ds c.nm.length Hk fs ps)(hr:HR K H1 r1 h1)(nd:c.nm.Nodup)(hn:c.nm.length<1000)(hl:ds.length=c.nm.length)(ns:PySem.W.nsIn K mainGlobals (ay c.cn)=some (some (.ref C))) :
  Fm K r1 (r1++x :: ps) H1 Hk/\HR K Hk (r1++x :: ps) (h1++.obj c ds :: Ev.eN h1.length c.nv (ds.length - c.nv))/\(r1++x :: ps)[h1.length]?=some x:=by
 have hpl:=q.pl;have pre:∀(n:Nat) a,r1[n]?=some a->(r1++x :: ps)[n]?=some a:=λn a e=>by rw[gV (List.getElem?_eq_some_iff.mp e).1];exact e
 have tup:∀a vs,cU K H1 a vs->cU K Hk a vs:=λa vs e=>by
  rcases e with (e|⟨ob,e⟩)|e
  .exact .inl (.inl (q.more _ _ e))
  .exact .inl (.inr ⟨ob,q.more _ _ e⟩)
  .exact .inr e
 have fm:Fm K r1 (r1++x :: ps) H1 Hk:=⟨pre,λa e=>by
   rcases List.mem_append.mp e with z|z
   .exact .inl z
   .rcases List.mem_cons.mp z with rfl|z
    .exact .inr q.x0
    .exact .inr (q.pf a z).1,λa o e _=>q.more a o e,tup,λa C dx fs e=>⟨fs,q.more _ _ e,λ_ _=>rfl⟩⟩
 have A:∀(j:Nat) o,(h1++O.obj c ds :: Ev.eN h1.length c.nv (ds.length - c.nv))[j]?=some o->h1[j]?=some o\/(j=h1.length/\o=.obj c ds)\/∃t,j=h1.length+(t+1)/\t<ps.length/\o=.b9 h1.length (c.nv+t):=λj o e=>by
  by_cases hj:j<h1.length
  .rw[gV hj]at e;exact .inl e
  .rw[Z5 (by omega)]at e;cases z:j - h1.length with
   |zero=>rw[z]at e;cases e;exact .inr (.inl ⟨by omega,rfl⟩)
   |succ t=>
    rw[z]at e;obtain⟨a,b⟩:=v8 (by simpa using e);exact .inr (.inr ⟨t,by omega,by omega,a⟩)
 have F:∀(j:Nat) b,j<h1.length->(r1++x :: ps)[j]?=some b->r1[j]?=some b:=λj b hj e=>by rw[gV (by rw[hr.len];exact hj)]at e;exact e
 have L:(r1++x :: ps)[h1.length]?=some x:=by rw[<-hr.len];simp
 have I:∀t:Nat,(r1++x :: ps)[h1.length+(t+1)]?=ps[t]?:=λt=>by rw[<-hr.len,Z5 (by omega)];simp
 have B:∀{j:Nat} {o:O},h1[j]?=some o->j<h1.length:=λe=>(List.getElem?_eq_some_iff.mp e).1;have G:∀(j:Nat) o b,vE o=true->h1[j]?=some o->r1[j]?=some b->∃y,H1 b=some y:=λj o b w e z=>by
  cases o with
  |lst ds=>obtain⟨b',M,us,e6,_⟩:=hr.ob j _ e;rw[z]at M;cases M;exact⟨_,e6⟩
  |b9 i kk=>obtain⟨b',o,M,e6,_⟩:=hr.ox.pv j i kk e;rw[z]at M;cases M;exact⟨_,e6⟩
  |_=>cases w
 have MM:∀(t:Nat) b,ps[t]?=some b->H1 b=none:=λt b e=>(q.pf b (ZM e)).1;have MN:∀t:Nat,t<ps.length->(h1++O.obj c ds :: Ev.eN h1.length c.nv (ds.length - c.nv))[h1.length+(t+1)]?=some (.b9 h1.length (c.nv+t)):=λt H=>by
  rw[Z5 (by omega),show h1.length+(t+1) - h1.length=t+1 by omega];simp only[List.getElem?_cons_succ];exact yQ (by omega)
 have old:∀{j:Nat} {o:O},h1[j]?=some o->(h1++O.obj c ds :: Ev.eN h1.length c.nv (ds.length - c.nv))[j]?=some o:=λe=>by rw[gV (B e)];exact e
 refine⟨fm,⟨by simp[hr.len,v9];omega,λj o e=>?_,λi j b y z e1 e2 e3 e4=>?_
  ,⟨λj N P e=>?_,λm i k e=>?_,λm m' b i k o p h l r z5=>?_,λi j b c1 d1 c2 d2 p h l r=>?_⟩⟩,L⟩
 .rcases A j o e with e|⟨rfl,rfl⟩|⟨t,rfl,H,rfl⟩
  .obtain⟨b,e1,z⟩:=hr.ob j o e;exact⟨b,pre _ _ e1,z.mono fm (λ_ _ _ w=>q.more _ _ w) (λ_ _ w=>q.more _ _ w)
    ⟩
  .exact⟨x,L,trivial⟩
  .exact⟨ps[t],by rw[I t];exact Rx H,trivial⟩
 .rcases A i _ e3 with e3|⟨_,w⟩|⟨_,_,_,w⟩
  .rcases A j _ e4 with e4|⟨_,w⟩|⟨_,_,_,w⟩
   .exact hr.inj i j b y z (F _ _ (B e3) e1) (F _ _ (B e4) e2) e3 e4
   .cases w
   .cases w
  .cases w
  .cases w
 .rcases A j _ e with e|⟨rfl,w⟩|⟨_,_,_,w⟩
  .obtain⟨b,qe,gs,z⟩:=hr.ox.ob j N P e;exact⟨b,qe,gs,z.go pre tup (λy w=>q.more _ _ w) (λm k w=>old w) λm b k y w1 w2 w3=>q.more _ _ w3⟩
  .cases w;refine⟨x,dx,fs,⟨L,⟨C,ns,q.ax⟩,hl,abi q.few hn,nd,λy hy=>q.no y (by rw[List.take_length];exact hy),λj g e p h l=>?_,λj g e p h l=>?_,λj g e p h l=>?_⟩⟩
   .obtain⟨v,Q,X⟩:=q.val j g e (List.getElem?_eq_some_iff.mp h).1 p h l;exact⟨v,Q,X.mono fm⟩
   .obtain⟨es',b,us,Q,X,J,Y,a5⟩:=q.lst j g e (List.getElem?_eq_some_iff.mp h).1 p h l;refine⟨es',h1.length+(j - c.nv+1),b,us,Q,X,by rw[I];exact J,?_,Y,a5.mono fm⟩;have:=MN (j - c.nv) (List.getElem?_eq_some_iff.mp J).1;rw[show c.nv+(j - c.nv)=j by omega]at this;exact this
   .obtain⟨b,Q,X,J,Y⟩:=q.om j g e (List.getElem?_eq_some_iff.mp h).1 p h l;refine⟨[],h1.length+(j - c.nv+1),b,Q,X,by rw[I];exact J,?_,Y⟩;have:=MN (j - c.nv) (List.getElem?_eq_some_iff.mp J).1;rw[show c.nv+(j - c.nv)=j by omega]at this;exact this
  .cases w
 .rcases A m _ e with e|⟨_,w⟩|⟨t,rfl,H,w⟩
  .obtain⟨b,o,p,h,l⟩:=hr.ox.pv m i k e;exact⟨b,o,pre _ _ p,q.more _ _ h,l⟩
  .cases w
  .obtain⟨_,_,o,J,Y⟩:=q.pf ps[t] (List.getElem_mem H);exact⟨ps[t],o,by rw[I t];exact Rx H,J,Y⟩
 .rcases A m _ l with l|⟨_,w⟩|⟨t,rfl,H,w⟩
  .have y1:=F _ _ (B l) p;obtain⟨y,Z⟩:=G m _ b rfl l y1;rcases A m' _ r with r|⟨_,w⟩|⟨t,rfl,H,w⟩
   .exact hr.ox.jp m m' b i k o y1 (F _ _ (B r) h) l r z5
   .subst w;cases z5
   .rw[I t]at h;rw[MM t b h]at Z;cases Z
  .cases w
  .rw[I t]at p;rcases A m' _ r with r|⟨_,w⟩|⟨t',rfl,ht',w⟩
   .obtain⟨y,Z⟩:=G m' o b z5 r (F _ _ (B r) h);rw[MM t b p]at Z;cases Z
   .subst w;cases z5
   .rw[I t']at h;have:=(List.getElem?_inj H q.nd).mp (p.trans h.symm);rw[this]
 .have ins:∀(j:Nat) N P b,h1[j]?=some (.obj N P)->r1[j]?=some b->b≠x:=λj N P b e z w=>by
   subst w;obtain⟨a,_,_,u⟩:=hr.ox.ob j N P e;obtain⟨_,_,u2⟩:=u.ins;have:=u.at_;rw[z]at this;cases this;rw[q.x0]at u2;cases u2
  rcases A i _ l with l|⟨rfl,w⟩|⟨_,_,_,w⟩
  .rcases A j _ r with r|⟨rfl,w⟩|⟨_,_,_,w⟩
   .exact hr.ox.jo i j b _ _ _ _ (F _ _ (B l) p) (F _ _ (B r) h) l r
   .rw[L]at h;cases h;exact absurd rfl (ins i _ _ _ l (F _ _ (B l) p))
   .cases w
  .rcases A j _ r with r|⟨rfl,w⟩|⟨_,_,_,w⟩
   .rw[L]at p;cases p;exact absurd rfl (ins j _ _ _ r (F _ _ (B r) h))
   .rfl
   .cases w
  .cases w
theorem jF{as:List V}{es:List D}{R:Hp->Prop}(nd:c.nm.Nodup)(ra:aG K H1 r1 es as)(big:∀us:List V,us.length<=1->us.length<=sizeLine):∀(tp:List Ev.TP) (k:Nat) (Hk:Hp) (fs:List (Str×V)) (ps:List Addr) (dt:List D),lY c k tp=true->Ev.lG es tp=some dt->ds.drop k=dt->k<=ds.length->k+tp.length=c.nm.length->
  gK K H1 r1 c x C dx ds k Hk fs ps->(∀Hn fn pn,gK K H1 r1 c x C dx ds c.nm.length Hn fn pn->R Hn)->nc x C dx as (jJ c k (c.nm.drop k) tp) Hk fs R
 |[],k,Hk,fs,ps,dt,_,_,_,_,hk,q,fin=>by
  have e:k=c.nm.length:=by simpa using hk
  subst e;rw[ab0];exact fin Hk fs ps q
 |t :: tp,k,Hk,fs,ps,dt,ht,e,ed,hkd,hk,q,fin=>by
  have J:k<c.nm.length:=by simp only[ZU]at hk;omega
  have o:c.nm[k]?=some c.nm[k]:=Rx J;rw[aaE J];cases t with
  |a j=>
   simp only[lY,ZJ,aaJ]at ht;simp only[Ev.lG]at e;obtain⟨d,B,e⟩:=Option.bind_eq_some_iff.mp e;obtain⟨l,h,rfl⟩:=Option.map_eq_some_iff.mp e;obtain⟨v,F,G⟩:=ra.get B;have b:ds[k]?=some d:=by rw[<-acd,ed];rfl
   exact⟨v,F,jF nd ra big tp (k+1) _ _ ps l ht.2 h (by rw[<-ach,ed];rfl) (List.getElem?_eq_some_iff.mp b).1 (by simp only[ZU]at hk;omega) (q.value nd ht.1 o b G) fin⟩
  |t j=>
   simp only[lY,ZJ,aaJ]at ht;simp only[Ev.lG]at e;obtain⟨d,B,e⟩:=Option.bind_eq_some_iff.mp e;obtain⟨l,h,rfl⟩:=Option.map_eq_some_iff.mp e;obtain⟨v,F,G⟩:=ra.get B;have b:ds[k]?=some (.tup [d]):=by rw[<-acd,ed];rfl
   refine⟨[v],by simp[D4,F],big _ (by simp),λp r=>?_⟩;exact jF nd ra big tp (k+1) _ _ (ps++[p]) l ht.2 h (by rw[<-ach,ed];rfl) (List.getElem?_eq_some_iff.mp b).1 (by simp only[ZU]at hk;omega) (q.b9 nd ht.1.1 o r (.inl ⟨_,rfl⟩) (λ_=>⟨_,_,b,rfl,.cons G .nil⟩) λz=>by omega) fin
  |c d=>
   simp only[lY,ZJ]at ht;simp only[Ev.lG]at e;obtain⟨l,h,rfl⟩:=Option.map_eq_some_iff.mp e;have b:ds[k]?=some d:=by rw[<-acd,ed];rfl
   have Gx:=(List.getElem?_eq_some_iff.mp b).1;have y:ds.drop (k+1)=l:=by rw[<-ach,ed];rfl
   have g:k+1+tp.length=c.nm.length:=by simp only[ZU]at hk;omega
   unfold jJ;by_cases A:k<c.nv
   .rw[xC A];cases d with
    |int i=>exact jF nd ra big tp (k+1) _ _ ps l ht.2 h y Gx g (q.value nd A o b rfl) fin
    |aV=>exact jF nd ra big tp (k+1) _ _ ps l ht.2 h y Gx g (q.value nd A o b rfl) fin
    |tup H=>cases H<;>simp at ht;omega
    |_=>simp at ht
   .rw[ZS A];have Wj:d=.tup []:=by
     cases d with
     |tup H=>cases H with|nil=>rfl|cons _ _=>simp at ht
     |int i=>simp at ht;omega
     |aV=>simp at ht;omega
     |_=>simp at ht
    subst Wj;by_cases I:k<c.nl
    .rw[xC I];refine⟨[],rfl,by simp,λp r=>?_⟩;exact jF nd ra big tp (k+1) _ _ (ps++[p]) l ht.2 h y Gx g (q.b9 nd (by omega) o r (.inl ⟨_,rfl⟩) (λ_=>⟨_,_,b,rfl,.nil⟩) λz=>by omega) fin
    .rw[ZS I];intro p r;exact jF nd ra big tp (k+1) _ _ (ps++[p]) l ht.2 h y Gx g (q.b9 nd (by omega) o r (.inr ⟨_,rfl⟩) (λz=>absurd z I) λ_=>⟨b,rfl⟩) fin
end
section
variable{G:Tb}{n:Nat}{sc:Scope}{N:List Str}{df:Bool}{m:List Nat}{pos:Pos}{c:Ev.Cl}{i:Nat}{o:qa}{x:Str}
def wc{F:List Ev.Fn}{w n fd eO:Nat}{h h':Hh}{d:D}(hd:F[fd]?=some ⟨0,0,.cons (.exp (.cl eO .nil)) .nil⟩)(hd0:F[eO]?=some ⟨0,0,.nil⟩)(e:Ev.run F w n fd [] h=.ok d h'):∃k,n=k+2/\h'=h:=by
 cases n with
 |zero=>cases e
 |succ n=>
  simp only[Ev.gz,hd,aaR,Z4]at e;unfold Ev.endOf at e;obtain⟨p,g,a,e⟩:=Ev.ah e;simp only[Ev.exs,Ev.fj,Ev.ev,Ev.bq,Ev.ak]at a;obtain⟨j,l,b,a⟩:=Ev.ah a;obtain⟨q,r,f,b⟩:=Ev.ah b;cases b;cases a;cases e;cases n with
  |zero=>cases f
  |succ n=>
   simp only[Ev.gz,hd0,aaR,Z4,Ev.exs,Ev.endOf,Ev.ak]at f;cases f;exact⟨n,rfl,rfl⟩
noncomputable def uV:Es->Nat
 |.nil=>0
 |.cons _ a=>uV a+1
theorem yR{P:aQ}:∀{es:Es}{fr:Fr}{h h':Hh}{ds:List D},Ev.bq P es fr h=.ok ds h'->ds.length=uV es
 |.nil,_,_,_,_,e=>by simp only[Ev.bq]at e;cases e;rfl
 |.cons a es,_,_,_,_,e=>by
  simp only[Ev.bq]at e;obtain⟨d,f,g,e⟩:=Ev.ah e;obtain⟨ds,j,b,e⟩:=Ev.ah e;cases e;simp[uV,yR b]
theorem pG{es:List D}:∀{tp:List Ev.TP}{ds:List D},Ev.lG es tp=some ds->ds.length=tp.length
 |[],_,e=>by cases e;rfl
 |.a _ :: r,_,e=>by
  obtain⟨_,_,e⟩:=Option.bind_eq_some_iff.mp e;obtain⟨l,b,rfl⟩:=Option.map_eq_some_iff.mp e;simp[pG b]
 |.t _ :: r,_,e=>by
  obtain⟨_,_,e⟩:=Option.bind_eq_some_iff.mp e;obtain⟨l,b,rfl⟩:=Option.map_eq_some_iff.mp e;simp[pG b]
 |.c _ :: r,_,e=>by
  obtain⟨l,b,rfl⟩:=Option.map_eq_some_iff.mp e;simp[pG b]
def MO{fd eO:Nat}{cn:Str}{tp:List Ev.TP}{es:Es}{e0:Expr}{xs:List Expr}{p cpos pos':Pos}(h:gB sc N df m x i=true)(ho:o∈G.oc)(hc:o.c=c)(ht:o.tp=tp)(hok:lY c 0 tp=true)(hd:G.F[fd]?=some ⟨0,0,.cons (.exp (.cl eO .nil)) .nil⟩)(hd0:G.F[eO]?=some ⟨0,0,.nil⟩)
  (hcn:cn=ay c.cn) (hcl:vY sc cn=true) (qY:c.nm.length<1000) (hlen:uV es+1=o.ini.ps.length) (ha:JA G n sc N df m es (e0 :: xs)) (hs:∀env:Env,swapsWith (.Call (.Name cn p) (e0 :: xs) [] cpos) (some (.Name x pos')) pos.line env=pure false:=by intro _;rfl)
  (hst:∀env:Env,starEach (e0 :: xs) env=(false,eval e0 env) :: starEach xs env:=by intro _;rfl) (hpl:∀env:Env,(backTo cpos (starEach xs env)).any (·.1)=false:=by intro _;rfl) :
  JS G n sc N df m (.new c i fd tp es) (.Assign [.Name x pos'] (.Call (.Name cn p) (e0 :: xs) [] cpos) pos):=λX g=>by
 subst hc;subst ht;subst hcn;obtain⟨C,oc⟩:=g.oc o ho;obtain⟨j,Z,e2,e3,e4,e5⟩:=gB.of h;obtain⟨l1,l2⟩:=g.loc e3;unfold vY at hcl;simp only[ZJ,aaK]at hcl;intro d s σ H Q I q;obtain⟨r,fr,hh,fl,aj,h',B,hr,e,q⟩:=q;simp only[Ev.fj]at e;obtain⟨as,h1,J,e⟩:=Ev.ah e;obtain⟨dd,h2,y2,e⟩:=Ev.ah e;obtain⟨ds,h3,y3,l⟩:=Ev.ah e;obtain⟨L,rfl⟩:=Ev.aI y3;split at l
 case isFalse=>cases l
 rename_i M;cases l;obtain⟨k,hk,rfl⟩:=wc hd hd0 y2;have P:=g.room;rw[hk]at P;refine vh (i:=j) (by rw[g.nm];exact e5) (by rw[g.nm];exact e2) l1 (yl oc.RP (oc.ok k) P (g.gl (by simpa using hcl.1)) oc.gl oc.bd .nil qR (ha X g) hcl.2 (hst _) (hpl _)) (hs _) l2 d s σ H Q I ?_;refine⟨r,fr,hh,as,_,B,hr,J,λvs H1 r1 W y f1 a f ha A hne=>?_⟩;refine⟨a,C,f,vs,by rw[aaf],by rw[W.length,yR J];omega,oc.ns,bz,?_⟩;have q0:gK X.K H1 r1 o.c a C f ds 0 (upd (upd H1 f (.own a)) a (.ins C f [])) [] []:=by
  refine⟨λb o e=>by rw[aC (bA e ha),aC (bA e A)];exact e,ha,bz,ZO _,λ_ _=>rfl,λj _ _ z=>absurd z (by omega),λj _ _ z=>absurd z (by omega),λj _ _ z=>absurd z (by omega),by simp,λb hb=>by simp at hb,List.nodup_nil⟩
 have:=jF (R:=λH2=>V.aV=V.aV/\Q.nx (σ.set j (some (.ref a))) H2) oc.nd W (λus z=>Z2 z (by rw[aaG];decide)) o.tp 0 _ [] [] ds hok L (aaA ..) (aaz _) (by rw[Nat.zero_add,<-pG L,M]) q0 λHn fn pn qn=>by
  obtain⟨Y,g2,g3⟩:=qn.done y oc.nd qY M oc.ns;exact⟨rfl,q _ _ _ (((B.mono f1).mono Y).set e4 Z (show RV X.K Hn _ _ (.ref a)from ⟨a,rfl,g3⟩)) g2 (f1.trans Y)⟩
 rw[aaA]at this;exact this
end
def QZ{K:PySem.W.Frag}{x y:Str}{C:Addr}(h:x=y)(e:PySem.W.nsIn K mainGlobals y=some (some (.ref C))):PySem.W.nsIn K mainGlobals x=some (some (.ref C)):=h▸e
def AE{K:PySem.W.Frag}{x y:Str}{C:Addr}(h:x=y)(e:PySem.W.findIn K (.ref C) y=some none):fR K C x:=h▸e
end Sm
namespace Sm
open PySem PySem.Spec PyProof.Rows L2 PySem.SeqAt
open Ev (D O Hh Fr R aQ E Es Eo T S Ss Fl Src bS bM TY BI ME)
section
variable{G:Tb}{n:Nat}{sc:Scope}{N:List Str}{df:Bool}{m:List Nat}{c:Ev.Cl}{i io:Nat}{o:qa}{x y:Str}{f1 f2:List Nat}
inductive R9(K:PySem.W.Frag)(m:List Nat)(c:Ev.Cl)(i:Nat)(Q:Ends)(s:L2.St)(H:Hp):Prop
 |mk (r:List Addr) (fr:Fr) (h:Hh) (nn:Nat) (ds:List D) (c0:SR K m H r fr s) (c1:HR K H r h) (c2:Ev.fT c h fr[i]?.join=some (nn,ds)) (c4:∀v H' r',RV K H' r' (.ref h.length) v->HR K H' r' (h++.obj c ds :: Ev.eN h.length c.nv (ds.length - c.nv))->Fm K r r' H H'->Q.rt v H'):R9 K m c i Q s H
def gK.again{K:PySem.W.Frag}{H1 Hn:Hp}{r1:List Addr}{a C dx:Addr}{d0:D}{es1 uy:List D}{fn:List (Str×V)}{pn:List Addr}{p3 p4:Addr}{we yS:List V}{f0:List Nat}(q:gK K H1 r1 c a C dx [d0,.tup [],.tup []] 3 Hn fn pn)(hv:c.nv=1)(hl:c.nl=3)(hn:c.nm=[f0,f1,f2])(nd:c.nm.Nodup)
  (h3:Hn p3=none) (h4:upd (upd Hn p3 (.lst we)) a (.ins C dx (bw (ay f1) (.ref p3) fn)) p4=none) (w1:aG K H1 r1 es1 we) (w2:aG K H1 r1 uy yS) :
  gK K H1 r1 c a C dx [d0,.tup es1,.tup uy] 3 (upd (upd (upd (upd Hn p3 (.lst we)) a (.ins C dx (bw (ay f1) (.ref p3) fn))) p4 (.lst yS)) a (.ins C dx (bw (ay f2) (.ref p4) (bw (ay f1) (.ref p3) fn)))) (bw (ay f2) (.ref p4) (bw (ay f1) (.ref p3) fn)) [p3,p4]:=by
 have n0:c.nm[0]?=some f0:=by rw[hn];rfl
 have n1:c.nm[1]?=some f1:=by rw[hn];rfl
 have n2:c.nm[2]?=some f2:=by rw[hn];rfl
 have Wk:=pD nd n0 n1 (by omega);have Wl:=pD nd n0 n2 (by omega);have Sa:=pD nd n1 n2 (by omega);have l:p3≠a:=λz=>by subst z;rw[q.ax]at h3;cases h3
 have A:p4≠a:=λz=>by subst z;rw[bz]at h4;cases h4
 have MP:p4≠p3:=λz=>by subst z;rw[aC l,bz]at h4;cases h4
 have Sb:Hn p4=none:=by rw[aC A,aC MP]at h4;exact h4
 have Sd:∀p,Hn p=none->H1 p=none:=λp z=>by
  cases e:H1 p with
  |none=>rfl
  |some o=>rw[q.more p o e]at z;cases z
 have H:(upd (upd (upd (upd Hn p3 (.lst we)) a (.ins C dx (bw (ay f1) (.ref p3) fn))) p4 (.lst yS)) a (.ins C dx (bw (ay f2) (.ref p4) (bw (ay f1) (.ref p3) fn)))) p3=some (.lst we):=by
  rw[aC l,aC (aay MP),aC l,bz]
 have I:(upd (upd (upd (upd Hn p3 (.lst we)) a (.ins C dx (bw (ay f1) (.ref p3) fn))) p4 (.lst yS)) a (.ins C dx (bw (ay f2) (.ref p4) (bw (ay f1) (.ref p3) fn)))) p4=some (.lst yS):=by
  rw[aC A,bz]
 have P:fn.lookup (ay f1)≠none:=by
  obtain⟨_,b,_,_,z,_⟩:=q.lst 1 f1 (.tup []) (by omega) (by omega) n1 rfl;rw[z];exact λz=>nomatch z
 have Q:fn.lookup (ay f2)≠none:=by
  obtain⟨_,b,_,_,z,_⟩:=q.lst 2 f2 (.tup []) (by omega) (by omega) n2 rfl;rw[z];exact λz=>nomatch z
 refine⟨λb o e=>?_,q.x0,bz,?_,λz B=>?_,λj f d J L g h=>?_,λj f d J L g h=>?_,λj f d J L g h=>by omega,by rw[hv];rfl,λb r=>?_,?_⟩
 .have M:b≠a:=λz=>by subst z;rw[q.x0]at e;cases e
  have k:=q.more b o e;rw[aC M,aC (λz=>by subst z;rw[Sb]at k;cases k),aC M,aC (λz=>by subst z;rw[h3]at k;cases k)];exact k
 .rw[ng (by rw[bx,ZS (aay Sa)];exact Q),ng P];exact q.few
 .have X:z≠ay f1:=λw=>B (by rw[hn,w];simp);have Y:z≠ay f2:=λw=>B (by rw[hn,w];simp);rw[bx,ZS Y,bx,ZS X];exact q.no z B
 .have F:j=0:=by omega
  subst F;rw[n0]at g;cases g;cases h;obtain⟨v,Z,g2⟩:=q.val 0 f0 d0 (by omega) (by omega) n0 rfl;exact⟨v,by rw[bx,ZS Wl,bx,ZS Wk];exact Z,g2⟩
 .have F:j=1\/j=2:=by omega
  rcases F with rfl|rfl
  .rw[n1]at g;cases g;cases h;exact⟨es1,p3,we,rfl,by rw[bx,ZS Sa,bx,xC rfl],by rw[hv];rfl,H,w1⟩
  .rw[n2]at g;cases g;cases h;exact⟨uy,p4,yS,rfl,by rw[bx,xC rfl],by rw[hv];rfl,I,w2⟩
 .rcases List.mem_cons.mp r with rfl|r
  .exact⟨Sd _ h3,l,_,H,.inl ⟨_,rfl⟩⟩
  .rw[Z8]at r;subst r;exact⟨Sd _ Sb,A,_,I,.inl ⟨_,rfl⟩⟩
 .simp[aay MP]
def Ew{f0:List Nat}{cn F1 F2:Str}{e0:Expr}{k:Nat}{p cpos pos' pos jG qZ jM Cu vS ps1 fk q8 jN Cv vU ps2 yT yU Gy pr:Pos}(hnk:n=k+2)(hx:vB sc N m x i=true)(hy:gB sc N df m y io=true)(MQ:vB sc N m y io=true)(hio:i≠io)(ho:o∈G.oc)(hc:o.c=c)(ht:o.tp=[.a 0,.c (.tup []),.c (.tup [])])(hok:lY c 0 o.tp=true)
  (hv:c.nv=1) (hl:c.nl=3) (hn:c.nm=[f0,f1,f2]) (MR:F1=ay f1) (MS:F2=ay f2) (hcn:cn=ay c.cn) (hcl:vY sc cn=true) (hlen:2=o.ini.ps.length) (Gz:sc.names.lookup ("list" : Str)=some .globalImplicit) (GA:("list" : Str)∈G.bl) (ha:JA G n sc N df m (.cons (.fld c i 0) .nil) [e0])
  (hs1:∀env:Env,swapsWith (.Call (.Name cn p) [e0] [] cpos) (some (.Name y pos')) pos.line env=pure false) (hst:∀env:Env,starEach [e0] env=(false,eval e0 env) :: starEach [] env)
  (hb1:∀env:Env,attributeBase (.Name x jG) F1 env (eval (.Name x jG) env)=eval (.Name x jG) env) (hb2:∀env:Env,attributeBase (.Name x fk) F2 env (eval (.Name x fk) env)=eval (.Name x fk) env)
  (ht1:∀env:Env,starEach [.Attribute (.Name x jG) F1 qZ] env=(false,eval (.Attribute (.Name x jG) F1 qZ) env) :: starEach [] env) (GB:∀env:Env,starEach [.Attribute (.Name x fk) F2 q8] env=(false,eval (.Attribute (.Name x fk) F2 q8) env) :: starEach [] env)
  (hw1:∀env:Env,swapsWith (.Call (.Name "list" jM) [.Attribute (.Name x jG) F1 qZ] [] Cu) (some (.Attribute (.Name y yT) F1 vS)) ps1.line env=pure false) (MT:∀env:Env,swapsWith (.Call (.Name "list" jN) [.Attribute (.Name x fk) F2 q8] [] Cv) (some (.Attribute (.Name y yU) F2 vU)) ps2.line env=pure false)
  (X:Cx) (g:Good G n sc N df X) :
  gf X [.Assign [.Name y pos'] (.Call (.Name cn p) [e0] [] cpos) pos,.Assign [.Attribute (.Name y yT) F1 vS] (.Call (.Name "list" jM) [.Attribute (.Name x jG) F1 qZ] [] Cu) ps1,.Assign [.Attribute (.Name y yU) F2 vU] (.Call (.Name "list" jN) [.Attribute (.Name x fk) F2 q8] [] Cv) ps2,.Return (some (.Name y Gy)) pr] (R9 X.K m c i):=by
 subst hc;subst hcn;subst MR;subst MS;obtain⟨C,oc⟩:=g.oc o ho;obtain⟨j,M,j2,j3,j4,j5⟩:=gB.of hy;obtain⟨l1,l2⟩:=g.loc j3;unfold vY at hcl;simp only[ZJ,aaK]at hcl;obtain⟨B,l,_⟩:=oK (pn:=jG) g hx;have px:∀pn,PE X (.Name x pn) (sG B):=λpn=>by
  obtain⟨j',e,q⟩:=oK (pn:=pn) g hx;have:j'=B:=by
   obtain⟨z1,A⟩:=List.getElem?_eq_some_iff.mp e;obtain⟨z3,z4⟩:=List.getElem?_eq_some_iff.mp l;exact(abB j4).mp (A.trans z4.symm)
  subst this;exact q
 have py:∀pn,PE X (.Name y pn) (sG j):=λpn=>by
  obtain⟨j',e,q⟩:=oK (pn:=pn) g MQ;have:j'=j:=by
   obtain⟨z1,A⟩:=List.getElem?_eq_some_iff.mp e;obtain⟨z3,z4⟩:=List.getElem?_eq_some_iff.mp M;exact(abB j4).mp (A.trans z4.symm)
  subst this;exact q
 have rm:=g.room;rw[hnk]at rm;have n0:o.c.nm[0]?=some f0:=by rw[hn];rfl
 have n1:o.c.nm[1]?=some f1:=by rw[hn];rfl
 have n2:o.c.nm[2]?=some f2:=by rw[hn];rfl
 have I:o.c.nm.length=3:=by rw[hn];rfl
 refine gf.of (gZ (vh (i:=j) (by rw[g.nm];exact j5) (by rw[g.nm];exact j2) l1 (yl oc.RP (oc.ok k) rm (g.gl (by simpa using hcl.1)) oc.gl oc.bd .nil qR (ha X g) hcl.2 (hst _) rfl) (hs1 _) l2)
  (gZ (nY (py yT) (ly iG (g.gl Gz) (g.bl _ GA) (by decide +kernel) (gy (qO (px jG) (hb1 _)) gk (ht1 _)) (by decide) (by decide) (ht1 _) rfl) (hw1 _))
  (gZ (nY (py yU) (ly iG (g.gl Gz) (g.bl _ GA) (by decide +kernel) (gy (qO (px fk) (hb2 _)) gk (GB _)) (by decide) (by decide) (GB _) rfl) (MT _))
  (gZ (Bp (py Gy)) sH)))) λQ s H q=>?_
 obtain⟨r,fr,P,nn,ds,sr,hr,z,q⟩:=q;obtain⟨z1,A⟩:=gR z;obtain⟨a',qe,fs',w'⟩:=hr.ox.ob nn _ ds A;have kH:=w'.len;rw[I]at kH;obtain⟨d0,d1,d2,rfl⟩:∃d0 d1 d2,ds=[d0,d1,d2]:=by
  match ds,kH with
  |[d0,d1,d2],_=>exact⟨d0,d1,d2,rfl⟩
 have y1:Ev.bq (Ev.run G.F G.w n) (.cons (.fld o.c i 0) .nil) fr P=.ok [d0] P:=by
  simp only[Ev.bq,Ev.ev,z];rw[xC (by rw[hv];decide)];rfl
 refine⟨r,fr,P,[d0],P,sr,hr,y1,λvs H1 r1 v1 J Se a d ha hdx hne=>?_⟩;refine⟨a,C,d,vs,by rw[aaf],by rw[v1.length,<-hlen];rfl,oc.ns,bz,?_⟩;have vI:=sr.mono Se;obtain⟨v,sx,W,rfl,y2⟩:=vI.sl B i _ l z1;obtain⟨X4,Sf,Sg,w⟩:=J.ox.ob nn _ _ A;obtain⟨C',w1,Y⟩:=w.ins;rw[oc.ns]at w1;cases w1;have y3:=w.at_;rw[y3]at y2;cases y2;obtain⟨es1,m1,b1,vR,rfl,Wm,_,_,Wn,Wo⟩:=w.lst 1 f1 d1 (by omega) n1 rfl;obtain⟨uy,m2,b2,mK,rfl,Wq,_,_,MU,Wr⟩:=w.lst 2 f2 d2 (by omega) n2 rfl;have q0:gK X.K H1 r1 o.c a C d [d0,.tup [],.tup []] 0 (upd (upd H1 d (.own a)) a (.ins C d [])) [] []:=by
  refine⟨λb o e=>by rw[aC (bA e ha),aC (bA e hdx)];exact e,ha,bz,ZO _,λ_ _=>rfl,λj _ _ z=>absurd z (by omega),λj _ _ z=>absurd z (by omega),λj _ _ z=>absurd z (by omega),by simp,λb hb=>by simp at hb,List.nodup_nil⟩
 have key:∀R:Hp->Prop,(∀Hn L pn,gK X.K H1 r1 o.c a C d [d0,.tup [],.tup []] o.c.nm.length Hn L pn->R Hn)->nc a C d vs (jJ o.c 0 o.c.nm o.tp) (upd (upd H1 d (.own a)) a (.ins C d [])) [] R:=λR fin=>by
  have:=jF (R:=R) (ds:=[d0,.tup [],.tup []]) oc.nd v1 (λus z=>Z2 z (by rw[aaG];decide)) o.tp 0 _ [] [] [d0,.tup [],.tup []] hok (by rw[ht];rfl) (aaA ..) (aaz _) (by rw[ht,I];rfl) q0 fin;rw[aaA]at this;exact this
 refine key _ λHn L pn f=>⟨rfl,?_⟩
 rw[I]at f;have hjl:j<s.length:=by rw[sr.len];exact(List.getElem?_eq_some_iff.mp M).1
 have Ws:B≠j:=λe=>by subst e;rw[l]at M;exact hio (Vb M)
 have Sh:(s.set j (some (V.ref a)))[B]?=some (some (.ref W)):=by rw[Kc (aay Ws)];exact sx
 have MV:(s.set j (some (V.ref a)))[j]?=some (some (.ref a)):=by rw[ZP hjl]
 have Wt:W≠a:=λe=>by subst e;rw[ha]at Y;cases Y
 refine⟨_,Sh,W,C,Sf,Sg,.ref b1,rfl,f.more _ _ Y,oc.cl,oc.no f1 (ZM n1),Wm,b1,vR,rfl,.inl (.inl (.inl (f.more _ _ Wn))),λZ h3=>?_⟩;have Wu:Z≠a:=λe=>by subst e;rw[f.ax]at h3;cases h3
 refine⟨_,MV,a,C,d,L,rfl,by rw[aC (aay Wu)];exact f.ax,oc.cl,oc.no f1 (ZM n1),by have:=f.few;omega,?_⟩;have h:∀b ob,b≠a->Hn b=some ob->upd (upd Hn Z (.lst vR)) a (.ins C d (bw (ay f1) (.ref Z) L)) b=some ob:=λb ob hb e=>by
  rw[aC hb,aC (λz=>by subst z;rw[h3]at e;cases e)];exact e
 have Wv:b2≠a:=λe=>by subst e;rw[ha]at MU;cases MU
 refine⟨_,Sh,W,C,Sf,Sg,.ref b2,rfl,h _ _ Wt (f.more _ _ Y),oc.cl,oc.no f2 (ZM n2),Wq,b2,mK,rfl,.inl (.inl (.inl (h _ _ Wv (f.more _ _ MU)))),λp4 h4=>?_⟩;have Ww:p4≠a:=λe=>by subst e;rw[bz]at h4;cases h4
 refine⟨_,MV,a,C,d,_,rfl,by rw[aC (aay Ww)];exact bz,oc.cl,oc.no f2 (ZM n2),by have:=f.few;have:=fV (ay f1) (V.ref Z) L;omega,?_⟩;have qd:=f.again (es1:=es1) (uy:=uy) hv hl hn oc.nd h3 h4 Wo Wr;rw[show(3:Nat)=o.c.nm.length from I.symm]at qd;obtain⟨g1,g2,g3⟩:=qd.done J oc.nd (by omega) (by rw[I];rfl) oc.ns;exact⟨_,MV,q _ _ _ ⟨a,rfl,g3⟩ g2 (Se.trans g1)⟩
def Ex{F:List Ev.Fn}{w k fd eO:Nat}{h:Hh}(hd:F[fd]?=some ⟨0,0,.cons (.exp (.cl eO .nil)) .nil⟩)(hd0:F[eO]?=some ⟨0,0,.nil⟩):∃d,Ev.run F w (k+2) fd [] h=.ok d h:=by
 refine⟨.aV,?_⟩;simp only[Ev.gz,hd,hd0,aaR,Z4,Ev.exs,Ev.fj,Ev.ev,Ev.bq,Ev.ak,Ev.endOf]
def MW{F:List Ev.Fn}{w n f3 fd eO:Nat}{h h':Hh}{d:D}(h3:F[f3]?=some ⟨0,0,.cons (.exp (.cl fd .nil)) .nil⟩)(hd:F[fd]?=some ⟨0,0,.cons (.exp (.cl eO .nil)) .nil⟩)(hd0:F[eO]?=some ⟨0,0,.nil⟩)(e:Ev.run F w n f3 [] h=.ok d h'):∃k,n=k+3/\h'=h:=by
 cases n with
 |zero=>cases e
 |succ n=>
  simp only[Ev.gz,h3,aaR,Z4]at e;unfold Ev.endOf at e;obtain⟨p,g,a,e⟩:=Ev.ah e;simp only[Ev.exs,Ev.fj,Ev.ev,Ev.bq,Ev.ak]at a;obtain⟨j,l,b,a⟩:=Ev.ah a;obtain⟨q,r,f,b⟩:=Ev.ah b;cases b;cases a;cases e;obtain⟨k,rfl,rfl⟩:=wc hd hd0 f;exact⟨k,rfl,rfl⟩
def Cw{P:aQ}{x:Option D}{f:Nat}{h h':Hh}{d:D}(e:Ev.qU P c x f h=.ok d h'):∃n ds dd h1,Ev.fT c h x=some (n,ds)/\P f [] h=.ok dd h1/\ds.length=c.nm.length/\d=.ref h1.length/\h'=h1++.obj c ds :: Ev.eN h1.length c.nv (ds.length - c.nv):=by
 unfold Ev.qU at e;split at e
 .rename_i n ds z;obtain⟨dd,h1,a,e⟩:=Ev.ah e;split at e
  .rename_i b;cases e;exact⟨n,ds,dd,h1,z,a,b,rfl,rfl⟩
  .cases e
 .cases e
def Q0{j ff f3 fd eO k:Nat}{st:Stmt}(hf:G.F[ff]?=some ⟨1,2,.cons (.qT c 0 1 fd) .nil⟩)(h3:G.F[f3]?=some ⟨0,0,.cons (.exp (.cl fd .nil)) .nil⟩)(hd:G.F[fd]?=some ⟨0,0,.cons (.exp (.cl eO .nil)) .nil⟩)(hd0:G.F[eO]?=some ⟨0,0,.nil⟩)(h0:JS G n sc N df m (.set j (.bJ c ff (.cons (.v k) .nil))) st):JS G n sc N df m (.tw c j ff f3 k) st:=λX g=>PS.of (h0 X g) λQ s H q=>by
 obtain⟨r,p,h,fl,P,W,A,B,e,q⟩:=q;simp only[Ev.fj]at e;obtain⟨d,Y,C,e⟩:=Ev.ah e;cases e;obtain⟨nn,ds,Z,a,z,I,J,rfl,rfl⟩:=Cw C;obtain⟨b,K,rfl⟩:=MW h3 hd hd0 I;obtain⟨f,y2⟩:=gR z;refine⟨r,p,a,_,_,_,A,B,?_,q⟩;obtain⟨d2,L⟩:=Ex (w:=G.w) (k:=b) (h:=a) hd hd0;have l:Ev.fT c a (some (.ref nn))=some (nn,ds):=by
  rw[f]at z;exact z
 have M:Ev.qU (Ev.run G.F G.w (b+2)) c (some (.ref nn)) fd a=.ok (.ref a.length) (a++.obj c ds :: Ev.eN a.length c.nv (ds.length - c.nv)):=by
  unfold Ev.qU;rw[l];simp only[L,Ev.ak];rw[xC J]
 have UW:Ev.run G.F G.w (b+3) ff [.ref nn] a=.ok (.ref a.length) (a++.obj c ds :: Ev.eN a.length c.nv (ds.length - c.nv)):=by
  rw[Ev.gz,hf];show Ev.endOf (Ev.exs (Ev.run G.F G.w (b+2)) G.w (.cons (.qT c 0 1 fd) .nil) [some (.ref nn),none] a)=_;simp only[Ev.exs,Ev.fj];rw[show([some (D.ref nn),none]:Fr)[0]?.join=some (.ref nn)from rfl,M];rfl
 simp only[Ev.fj,Ev.ev,Ev.sP,z,abg,Z4,Ev.bq,f,Option.join,Option.bind,id,Ev.bQ,Ev.ak];rw[K,UW,l];rfl
def Jl{f0:List Nat}{cn F1 F2:Str}{e0:Expr}{fd eO:Nat}{p cpos pos' pos jG qZ jM Cu vS ps1 fk q8 jN Cv vU ps2 yT yU Gy pr:Pos}(hd:G.F[fd]?=some ⟨0,0,.cons (.exp (.cl eO .nil)) .nil⟩)(hd0:G.F[eO]?=some ⟨0,0,.nil⟩)(hx:vB sc N m x i=true)(hy:gB sc N df m y io=true)(MQ:vB sc N m y io=true)(hio:i≠io)(ho:o∈G.oc)(hc:o.c=c)(ht:o.tp=[.a 0,.c (.tup []),.c (.tup [])])(hok:lY c 0 o.tp=true)
  (hv:c.nv=1) (hl:c.nl=3) (hn:c.nm=[f0,f1,f2]) (MR:F1=ay f1) (MS:F2=ay f2) (hcn:cn=ay c.cn) (hcl:vY sc cn=true) (hlen:2=o.ini.ps.length) (GA:("list" : Str)∈G.bl) (ha:JA G n sc N df m (.cons (.fld c i 0) .nil) [e0]) (Gz:sc.names.lookup ("list" : Str)=some .globalImplicit:=by rfl)
  (hs1:∀env:Env,swapsWith (.Call (.Name cn p) [e0] [] cpos) (some (.Name y pos')) pos.line env=pure false:=by intro _;rfl) (hst:∀env:Env,starEach [e0] env=(false,eval e0 env) :: starEach [] env:=by intro _;rfl)
  (hb1:∀env:Env,attributeBase (.Name x jG) F1 env (eval (.Name x jG) env)=eval (.Name x jG) env:=by intro _;rfl) (hb2:∀env:Env,attributeBase (.Name x fk) F2 env (eval (.Name x fk) env)=eval (.Name x fk) env:=by intro _;rfl)
  (ht1:∀env:Env,starEach [.Attribute (.Name x jG) F1 qZ] env=(false,eval (.Attribute (.Name x jG) F1 qZ) env) :: starEach [] env:=by intro _;rfl) (GB:∀env:Env,starEach [.Attribute (.Name x fk) F2 q8] env=(false,eval (.Attribute (.Name x fk) F2 q8) env) :: starEach [] env:=by intro _;rfl)
  (hw1:∀env:Env,swapsWith (.Call (.Name "list" jM) [.Attribute (.Name x jG) F1 qZ] [] Cu) (some (.Attribute (.Name y yT) F1 vS)) ps1.line env=pure false:=by intro _;rfl) (MT:∀env:Env,swapsWith (.Call (.Name "list" jN) [.Attribute (.Name x fk) F2 q8] [] Cv) (some (.Attribute (.Name y yU) F2 vU)) ps2.line env=pure false:=by intro _;rfl) :
  lI G n sc N df m (.cons (.qT c i io fd) .nil) [.Assign [.Name y pos'] (.Call (.Name cn p) [e0] [] cpos) pos,.Assign [.Attribute (.Name y yT) F1 vS] (.Call (.Name "list" jM) [.Attribute (.Name x jG) F1 qZ] [] Cu) ps1,.Assign [.Attribute (.Name y yU) F2 vU] (.Call (.Name "list" jN) [.Attribute (.Name x fk) F2 q8] [] Cv) ps2,.Return (some (.Name y Gy)) pr]:=λX g=>by
 intro f s σ H Q I q;obtain⟨r,l,h,fl,Y,Z,A,B,e,q⟩:=q;simp only[Ev.exs,Ev.fj]at e;replace e:=Ev.ah e;obtain⟨p1,h1,j,C⟩:=e;replace j:=Ev.ah j;obtain⟨d,h2,J,K⟩:=j;cases K;cases C;obtain⟨nn,ds,dd,L,z,M,z3,rfl,rfl⟩:=Cw J;obtain⟨k,P,rfl⟩:=wc hd hd0 M;exact Ew P hx hy MQ hio ho hc ht hok hv hl hn MR MS hcn hcl hlen Gz GA ha hs1 hst hb1 hb2 ht1 GB hw1 MT X g f s σ H Q I ⟨r,l,L,nn,ds,A,B,z,λv H' W a b c=>q v H' W a b c⟩
end
end Sm
namespace Pv
open Ev (D bS bM TY BI ME T E Es Eo It S Ss Fn big deep b2i rep cC eK bE aT cut cR ef slots)
def nd{α:Type _}{a b:α}(h:a=b):a=b:=h
inductive V where
 |aV|bl (b:Bool)|int (i:Int)|str (s:List Nat)|tup (l:List V)|lst (l:List V)|bT (l:List V)
inductive Sl where
 |val (v:V)|own (l:List V)|bor (l:List V)|ro (l:List V)
 |oo (c:Ev.Cl) (l:List V)|ob (c:Ev.Cl) (l:List V)|oq (c:Ev.Cl) (l:List V)
abbrev Fr:=List (Option Sl)
inductive R(α:Type) where
 |ok (a:α) (fr:Fr)
 |bad
noncomputable def R.bind{α β:Type}(r:R α)(f:α->Fr->R β):R β:=
 match r with
 |.ok a h=>f a h
 |.bad=>.bad
@[simp] theorem ak{α β:Type}(a:α)(h:Fr)(f:α->Fr->R β):(R.ok a h).bind f=f a h:=nd rfl
@[simp] theorem D0{α β:Type}(f:α->Fr->R β):(R.bad:R α).bind f=.bad:=nd rfl
def ah{α β:Type}{r:R α}{f:α->Fr->R β}{b:β}{h:Fr}(e:r.bind f=.ok b h):∃a h1,r=.ok a h1/\f a h1=.ok b h:=by
 cases r with
 |ok a h1=>exact⟨a,h1,rfl,e⟩
 |bad=>cases e
noncomputable def R.of{α:Type}(o:Option α)(h:Fr):R α:=match o with
 |some a=>.ok a h
 |none=>.bad
@[simp] theorem bQ{α:Type}(a:α)(h:Fr):R.of (some a) h=.ok a h:=nd rfl
@[simp] theorem of_none{α:Type}(h:Fr):R.of (none:Option α) h=.bad:=nd rfl
def aI{α:Type}{o:Option α}{h h':Fr}{a:α}(e:R.of o h=.ok a h'):o=some a/\h'=h:=by
 cases o with
 |none=>cases e
 |some b=>cases e;exact⟨rfl,rfl⟩
inductive Fl where
 |nx|bk|ct|ret (v:V)
mutual
noncomputable def ofD:D->Option V
 |.aV=>some .aV
 |.bl b=>some (.bl b)
 |.int i=>some (.int i)
 |.str s=>some (.str s)
 |.tup ds=>(wg ds).map .tup
 |.ref _=>none
noncomputable def wg:List D->Option (List V)
 |[]=>some []
 |d :: ds=>(ofD d).bind λv=>(wg ds).map λa=>v :: a
end
noncomputable def cG(f:V->V->Option Bool):List V->List V->Option Bool
 |[],[]=>some true
 |x :: xs,y :: ys=>(f x y).bind λb=>(cG f xs ys).bind λc=>some (b&&c)
 |_,_=>some false
noncomputable def cW:Nat->V->V->Option Bool
 |0,_,_=>none
 |_+1,.aV,.aV=>some true
 |_+1,.bl a,.bl b=>some (a==b)
 |_+1,.int a,.int b=>some (a==b)
 |_+1,.bl a,.int b=>some (b2i a==b)
 |_+1,.int a,.bl b=>some (a==b2i b)
 |_+1,.str a,.str b=>some (a==b)
 |n+1,.tup a,.tup b=>cG (cW n) a b
 |n+1,.lst a,.lst b=>cG (cW n) a b
 |n+1,.bT a,.lst b=>cG (cW n) a b
 |n+1,.lst a,.bT b=>cG (cW n) a b
 |_+1,.bT _,.bT _=>none
 |_+1,_,_=>some false
noncomputable def truthy:V->Bool
 |.aV=>false
 |.bl b=>b
 |.int i=>i != 0
 |.str s=>!s.isEmpty
 |.tup ds=>!ds.isEmpty
 |.lst ds=>!ds.isEmpty
 |.bT ds=>!ds.isEmpty
noncomputable def fq(l:List V):Option V:=if l.length<=big then some (.lst l)else none
noncomputable def kI(l:List V):Option V:=if l.length<=big then some (.tup l)else none
noncomputable def bP:bS->V->V->Option V
 |.add,.int i,.int j=>some (.int (i+j))
 |.add,.str a,.str b=>if a.length+b.length<=big then some (.str (a++b))else none
 |.add,.tup a,.tup b=>if a.length+b.length<=big then some (.tup (a++b))else none
 |.add,.lst a,.lst b=>fq (a++b)
 |.sub,.int i,.int j=>some (.int (i - j))
 |.mul,.int i,.int j=>if cC i j then some (.int (i*j))else none
 |.mul,.str a,.int k=>if 0<=k/\k<=1000/\a.length<=1000 then some (.str (rep k.toNat a))else none
 |.mul,.tup a,.int k=>if 0<=k/\k<=1000/\a.length<=1000 then some (.tup (rep k.toNat a))else none
 |.mul,.lst a,.int k=>if 0<=k/\k<=1000/\a.length<=1000 then fq (rep k.toNat a)else none
 |.fdiv,.int i,.int j=>if 0<j/\j<1073741824 then some (.int (i / j))else none
 |.mod,.int i,.int j=>if 0<j then some (.int (i % j))else none
 |_,_,_=>none
noncomputable def mem(x:V):List V->Option Bool
 |[]=>some false
 |y :: ys=>(cW deep y x).bind λb=>(mem x ys).bind λc=>some (b ||c)
noncomputable def isin(x y:V):Option Bool:=match y with
 |.str s=>match x with
  |.str [c]=>some (s.contains c)
  |_=>none
 |.tup ds=>mem x ds
 |.lst ds=>mem x ds
 |.bT ds=>mem x ds
 |_=>none
noncomputable def cop(o:bM)(x y:V):Option Bool:=match o,x,y with
 |.eq,x,y=>cW deep x y
 |.ne,x,y=>(cW deep x y).map (!·)
 |.lt,.int i,.int j=>some (decide (i<j))
 |.gt,.int i,.int j=>some (decide (j<i))
 |.isin,x,y=>isin x y
 |.iH,x,y=>(isin x y).map (!·)
 |_,_,_=>none
noncomputable def eX(x y:V):Option V:=match x,y with
 |.tup ds,.int i=>bE ds i
 |.str s,.int i=>(bE s i).map λc=>.str [c]
 |.lst ds,.int i=>bE ds i
 |.bT ds,.int i=>bE ds i
 |_,_=>none
noncomputable def ir(x:V)(lo hi:Option Int):Option V:=match x with
 |.tup ds=>some (.tup (cut ds lo hi))
 |.str s=>some (.str (cut s lo hi))
 |.lst ds=>fq (cut ds lo hi)
 |.bT ds=>fq (cut ds lo hi)
 |_=>none
noncomputable def toT:V->Option V
 |.tup l=>some (.tup l)
 |.lst l=>kI l
 |.bT l=>kI l
 |_=>none
noncomputable def boolsOf:List V->Option (List Bool)
 |[]=>some []
 |.bl b :: ds=>(boolsOf ds).map λr=>b :: r
 |_=>none
noncomputable def intsOf:List V->Option (List Int)
 |[]=>some []
 |.int i :: ds=>(intsOf ds).map λr=>i :: r
 |_=>none
noncomputable def strsOf:List V->Option (List (List Nat))
 |[]=>some []
 |.str s :: ds=>(strsOf ds).map λr=>s :: r
 |_=>none
noncomputable def wj:V->Option (List V)
 |.lst l=>some l
 |.bT l=>some l
 |_=>none
noncomputable def dS(b:BI)(xs:List V):Option V:=match b,xs with
 |.len,[.str s]=>if s.length<=big then some (.int s.length)else none
 |.len,[.tup ds]=>some (.int ds.length)
 |.len,[x]=>(wj x).map λds=>.int ds.length
 |.sum,[x]=>((wj x).bind intsOf).map λa=>.int a.sum
 |.min,[.int i,.int j]=>some (.int (if j<i then j else i))
 |_,_=>none
noncomputable def fL(m:ME)(o:V)(xs:List V):Option V:=match m,o,xs with
 |.join,.str sep,[x]=>((wj x).bind strsOf).bind λa=>if (a.map (·.length)).sum+a.length*sep.length<=big then some (.str (cR sep a))else none
 |_,_,_=>none
noncomputable def lM(m:ME)(l:List V)(xs:List V):Option (V×List V):=match m,xs with
 |.append,[x]=>if l.length<big then some (.aV,l++[x])else none
 |.extend,[.lst es]=>if l.length+es.length<=big then some (.aV,l++es)else none
 |.pop,[]=>match l[l.length - 1]? with
  |some x=>some (x,l.dropLast)
  |none=>none
 |_,_=>none
noncomputable def Cy:ME->Bool
 |.extend=>true
 |_=>false
noncomputable def jy:ME->Bool
 |.append=>true
 |.extend=>true
 |.pop=>true
 |_=>false
noncomputable def uS:V->Bool
 |.aV=>true
 |.bl _=>true
 |.int _=>true
 |.str _=>true
 |_=>false
noncomputable def AF(x:V):List (D×D)->Option V
 |[]=>none
 | (k,v) :: r=>match (ofD k).bind λa=>cW 1 a x with
  |some true=>ofD v
  |some false=>AF x r
  |none=>none
noncomputable def m9(x:V)(kvs:List (D×D)):Option V:=if uS x then AF x kvs else none
noncomputable def fP:V->Option (List V)
 |.tup ds=>some ds
 |.str s=>some (s.map λc=>.str [c])
 |.lst ds=>some ds
 |.bT ds=>some ds
 |_=>none
noncomputable def AG:V->Option (List V)
 |.tup ds=>some ds
 |_=>none
noncomputable def range(lo:Int)(n:Nat):List V:=(List.range n).map λ(i:Nat)=>.int (lo+i)
noncomputable def eL(hi:Int)(n:Nat):List V:=(List.range n).map λ(i:Nat)=>.int (hi - i)
noncomputable def dw:List V->Option (List V)
 |[.int j]=>if -(2 ^ 62)<=j/\j<2 ^ 62 then some (range 0 j.toNat)else none
 |[.int i,.int j]=>if -(2 ^ 62)<=i/\i<2 ^ 62/\-(2 ^ 62)<=j/\j<2 ^ 62 then some (range i (j - i).toNat)else none
 |[.int i,.int j,.int k]=>if k = -1/\-(2 ^ 62)<=i/\i<2 ^ 62/\-(2 ^ 62)<=j/\j<2 ^ 62 then some (eL i (i - j).toNat)else none
 |_=>none
noncomputable def jR:Int->List V->List V
 |_,[]=>[]
 |k,x :: xs=>.tup [.int k,x] :: jR (k+1) xs
noncomputable def put(fr:Fr)(i:Nat)(s:Sl):Option Fr:=match fr[i]? with
 |some (some (.bor _))=>none
 |some (some (.ro _))=>none
 |some (some (.ob _ _))=>none
 |some (some (.oq _ _))=>none
 |_=>some (fr.set i (some s))
noncomputable def cV:List Nat->List V->Fr->Option Fr
 |[],[],fr=>some fr
 |i :: is,d :: ds,fr=>(put fr i (.val d)).bind (cV is ds)
 |_,_,_=>none
noncomputable def cI:T->V->Fr->Option Fr
 |.one i,d,fr=>put fr i (.val d)
 |.many l,.tup ds,fr=>cV l ds fr
 |_,_,_=>none
noncomputable def undef(t:T)(fr:Fr):Bool:=(slots t).all λi=>(fr[i]?.join).isNone
noncomputable def Sl.read:Sl->Sl
 |.own l=>.ro l
 |.bor l=>.ro l
 |.oo c l=>.oq c l
 |.ob c l=>.oq c l
 |s=>s
noncomputable def uz(fr:Fr):Fr:=fr.map (Option.map Sl.read)
noncomputable def Sl.eZ:Sl->Sl
 |.own l=>.val (.lst l)
 |s=>s
noncomputable def gh(fr:Fr):Fr:=fr.map (Option.map Sl.eZ)
noncomputable def sZ(e:E)(fr:Fr):Fr:=match e with
 |.v j=>fr.modify j (Option.map Sl.eZ)
 |_=>fr
noncomputable def Sl.walk:Sl->Sl
 |.own l=>.val (.lst l)
 |.bor l=>.ro l
 |s=>s
noncomputable def uW(is:List Nat)(fr:Fr):Fr:=is.foldl (λfr i=>match fr[i]? with
 |some (some s)=>fr.set i (some s.walk)
 |_=>fr) fr
noncomputable def Sl.out:Sl->Option (List V)
 |.bor l=>some l
 |.ro l=>some l
 |.ob _ l=>some l
 |.oq _ l=>some l
 |_=>none
noncomputable def Sl.lend:Sl->Option Sl
 |.own l=>some (.bor l)
 |.bor l=>some (.bor l)
 |.ro l=>some (.ro l)
 |.oo c l=>some (.ob c l)
 |.ob c l=>some (.ob c l)
 |.oq c l=>some (.oq c l)
 |.val _=>none
noncomputable def lent(fr:Fr)(i:Nat):Option Sl:=match fr[i]? with
 |some (some s)=>s.lend
 |_=>none
noncomputable def Sl.with:Sl->List V->Sl
 |.own _,l=>.own l
 |.bor _,l=>.bor l
 |.oo c _,l=>.oo c l
 |.ob c _,l=>.ob c l
 |s,_=>s
noncomputable def back:List Nat->List (List V)->Fr->Option Fr
 |[],[],fr=>some fr
 |i :: is,l :: ls,fr=>match fr[i]? with
  |some (some s)=>back is ls (fr.set i (some (s.with l)))
  |_=>none
 |_,_,_=>none
noncomputable def cX(f:V->Option (Option V)):List V->Option (List V)
 |[]=>some []
 |d :: ds=>(f d).bind λo=>(cX f ds).bind λr=>some (o.toList++r)
noncomputable def forL(f:V->Fr->R Fl):List V->Fr->R Fl
 |[],fr=>.ok .nx fr
 |d :: ds,fr=>(f d fr).bind λp a=>match p with
   |.nx=>forL f ds a
   |.ct=>forL f ds a
   |.bk=>.ok .nx a
   |.ret x=>.ok (.ret x) a
noncomputable def eg(t:Fr->R Bool)(f:Fr->R Fl):Nat->Fr->R Fl
 |0,_=>.bad
 |n+1,fr=>(t fr).bind λb c=>if b then (f c).bind λp a=>match p with
   |.nx=>eg t f n a
   |.ct=>eg t f n a
   |.bk=>.ok .nx a
   |.ret x=>.ok (.ret x) a
  else .ok .nx c
noncomputable def eG:Es->List Nat
 |.nil=>[]
 |.cons (.v i) a=>i :: eG a
 |.cons _ a=>eG a
noncomputable def GC(m:ME):E->List Nat
 |.v i=>if jy m then [i]else []
 |_=>[]
mutual
noncomputable def aP:E->List Nat
 |.c _=>[]|.v _=>[]|.tup d=>cP d|.lst d=>cP d
 |.bin _ a b=>aP a++aP b|.cmp _ a b=>aP a++aP b
 |.nt a=>aP a|.neg a=>aP a|.an a b=>aP a++aP b|.orr a b=>aP a++aP b|.fS t a b=>aP t++(aP a++aP b)
 |.ix a b=>aP a++aP b|.sl a lo hi=>aP a++(iL lo++iL hi)
 |.cl _ d=>cP d++eG d|.bi _ d=>cP d|.me m o d=>aP o++(cP d++GC m o)
 |.comp _ _ e _=>wm e
 |.gP e=>wm e
 |.fld _ _ _=>[]|.fu _ _ _ _ d=>cP d|.fm _ _ i _ d=>cP d++[i]|.bJ _ _ d=>cP d++eG d
 |.mv _ i _ _=>[i]
 |.iY a=>aP a
noncomputable def cP:Es->List Nat
 |.nil=>[]
 |.cons e a=>aP e++cP a
noncomputable def iL:Eo->List Nat
 |.no=>[]
 |.yes e=>aP e
noncomputable def wm:It->List Nat
 |.seq e=>aP e|.fh es=>cP es
 |.rev a=>aP a
end
noncomputable def kf(a:E)(l:List Nat):Bool:=match a with
 |.v i=>!l.contains i
 |_=>l.isEmpty
noncomputable def itv:It->List Nat
 |.seq (.v i)=>[i]
 |.rev (.v i)=>[i]
 |_=>[]
abbrev aQ:=Nat->List Sl->Option (V×List (List V))
noncomputable def intOf:V->Option Int
 |.int i=>some i
 |_=>none
noncomputable def nh(k:Bool)(fr:Fr)(i:Nat):Option V:=match fr[i]? with
 |some (some (.val v))=>some v
 |some (some (.own l))=>if k then some (.lst l)else none
 |some (some (.bor l))=>if k then some (.lst l)else none
 |some (some (.ro l))=>if k then some (.lst l)else none
 |_=>none
noncomputable def AH(k:Bool)(fr:Fr)(i:Nat):Option V:=match fr[i]? with
 |some (some (.ro l))=>some (.lst l)
 |_=>nh k fr i
noncomputable def src(k:Bool)(fr:Fr)(e:E)(r:R V):R V:=match e with
 |.v i=>R.of (AH k fr i) fr
 |_=>r
noncomputable def lN(fr:Fr):E->Option Nat
 |.v i=>if (lent fr i).isSome then some i else none
 |_=>none
noncomputable def args(fr:Fr):List (Nat ⊕ V)->Option (List Sl)
 |[]=>some []
 |.inl i :: r=>(lent fr i).bind λs=>(args fr r).map λl=>s :: l
 |.inr v :: r=>(args fr r).map λl=>.val v :: l
noncomputable def bh:List (Nat ⊕ V)->List Nat
 |[]=>[]
 |.inl i :: r=>i :: bh r
 |.inr _ :: r=>bh r
noncomputable def b8(P:aQ)(f:Nat)(as:List (Nat ⊕ V))(fr:Fr):R V:=
 if (bh as).Nodup then match args fr as with
  |some a=>match P f a with
   |some (v,outs)=>R.of ((back (bh as) outs fr).map λb=>(v,b)) fr |>.bind λp _=>.ok p.1 p.2
   |none=>.bad
  |none=>.bad
 else .bad
noncomputable def ja(c:Ev.Cl):Option (Option Sl)->Option (List V)
 |some (some (.oo c' l))=>if c'=c then some l else none
 |some (some (.ob c' l))=>if c'=c then some l else none
 |some (some (.oq c' l))=>if c'=c then some l else none
 |_=>none
noncomputable def qf(c:Ev.Cl):Option (Option Sl)->Option (Sl×List V)
 |some (some (.oo c' l))=>if c'=c then some (.oo c l,l)else none
 |some (some (.ob c' l))=>if c'=c then some (.ob c l,l)else none
 |_=>none
noncomputable def nP(c:Ev.Cl)(l:List V)(k:Nat):Option (List V):=if c.nv<=k/\k<c.nl then (match l[k]? with
  |some (.tup es)=>some es
  |_=>none)else none
noncomputable def qg(o:Ev.FU)(es as:List V):Option V:=match o,as with
 |.len,[]=>some (.int es.length)
 |.lF,[]=>some (.bl (!es.isEmpty))
 |.RK,[]=>fq es
 |.ix,[.int j]=>bE es j
 |.yr,[.int j]=>fq (cut es (some j) none)
 |_,_=>none
noncomputable def Cz(o:Ev.FM)(es as:List V):Option (V×List V):=match o,as with
 |.app,[x]=>if es.length<big then some (.aV,es++[x])else none
 |.pop,[]=>match es[es.length - 1]? with
  |some x=>some (x,es.dropLast)
  |none=>none
 |_,_=>none
noncomputable def uA(c:Ev.Cl)(l:List V)(k j:Nat):Option (List V):=(nP c l k).bind λb=>(nP c l j).bind λa=>match a[a.length - 1]? with
  |some y=>if b.length<big/\k≠j then some ((l.set j (.tup a.dropLast)).set k (.tup (b++[y])))else none
  |none=>none
noncomputable def wo(c:Ev.Cl)(fr:Fr):Es->Bool
 |.cons (.v i) _=>(ja c fr[i]?).isSome
 |_=>false
noncomputable def yV(as:List V):List Ev.TP->Option (List V)
 |[]=>some []
 |.a j :: r=>as[j]?.bind λd=>(yV as r).map λl=>d :: l
 |.t j :: r=>as[j]?.bind λd=>(yV as r).map λl=>.tup [d] :: l
 |.c d :: r=>(ofD d).bind λd=>(yV as r).map λl=>d :: l
mutual
noncomputable def ev(P:aQ):Bool->E->Fr->R V
 |_,.c d,fr=>R.of (ofD d) fr
 |k,.v i,fr=>R.of (nh k fr i) fr
 |_,.tup es,fr=>(bq P false es fr).bind λds e=>R.of (kI ds) e
 |_,.lst es,fr=>(bq P false es fr).bind λds e=>R.of (fq ds) e
 |_,.bin o a b,fr=>(ev P (kf a (aP b)) a fr).bind λx e=>(ev P true b e).bind λy g=>R.of (bP o x y) g
 |_,.cmp o a b,fr=>(ev P (kf a (aP b)) a fr).bind λx e=>(ev P true b e).bind λy g=>R.of ((cop o x y).map .bl) g
 |_,.nt a,fr=>(ev P true a fr).bind λx e=>match x with
   |.bl b=>.ok (.bl (!b)) e
   |_=>.bad
 |_,.neg a,fr=>(ev P true a fr).bind λx e=>match x with
   |.int i=>.ok (.int (-i)) e
   |_=>.bad
 |k,.an a b,fr=>(ev P true a fr).bind λx e=>match x with
   |.bl true=>ev P k b e
   |.bl false=>.ok (.bl false) e
   |_=>.bad
 |k,.orr a b,fr=>(ev P true a fr).bind λx e=>match x with
   |.bl true=>.ok (.bl true) e
   |.bl false=>ev P k b e
   |_=>.bad
 |k,.fS t a b,fr=>(aM P t fr).bind λc e=>if c then ev P k a e else ev P k b e
 |_,.ix a b,fr=>(ev P (kf a (aP b)) a fr).bind λx e=>(ev P true b e).bind λy g=>R.of (eX x y) g
 |_,.sl a lo hi,fr=>(ev P (kf a (iL lo++iL hi)) a fr).bind λx e=>(gg P lo e).bind λl g=>(gg P hi g).bind λu z=>R.of (ir x l u) z
 |_,.cl f es,fr=>(fM P es fr).bind λh e=>b8 P f h e
 |_,.bi b es,fr=>(bq P true es fr).bind λds e=>R.of (dS b ds) e
 |_,.me m o es,fr=>if jy m then match lN fr o with
   |some i=>(bq P (Cy m) es fr).bind λds e=>match e[i]? with
    |some (some (.own l))=>match lM m l ds with
     |some (v,q)=>.ok v (e.set i (some (.own q)))
     |none=>.bad
    |some (some (.bor l))=>match lM m l ds with
     |some (v,q)=>.ok v (e.set i (some (.bor q)))
     |none=>.bad
    |_=>.bad
   |none=>.bad
  else (ev P (kf o (cP es)) o fr).bind λx e=>(bq P true es e).bind λds g=>R.of (fL m x ds) g
 |_,.comp elt t it cond,fr=>(dj P true it fr).bind λs e=>if undef t e then
   R.of ((cX (λd=>match cI t d (uz e)with
    |none=>none
    |some g=>match iI P cond g with
     |.ok c _=>if c then (match ev P false elt g with|.ok x _=>some (some x)|.bad=>none)else some none
     |.bad=>none) s).bind fq) e else .bad
 |_,.gP it,fr=>(dj P true it fr).bind λs e=>R.of (fq s) e
 |_,.iY a,fr=>(ev P true a fr).bind λx e=>R.of (toT x) e
 |_,.fld c i k,fr=>match ja c fr[i]? with
  |some l=>if k<c.nv then R.of l[k]? fr else .bad
  |none=>.bad
 |_,.fu c o i k es,fr=>if (ja c fr[i]?).isSome then (bq P true es fr).bind λh e=>match ja c e[i]? with
   |some l=>R.of ((nP c l k).bind λr=>qg o r h) e
   |none=>.bad
  else .bad
 |_,.fm c o i k es,fr=>if (ja c fr[i]?).isSome then (bq P false es fr).bind λh e=>match qf c e[i]? with
   |some (s,l)=>(R.of ((nP c l k).bind λr=>Cz o r h) e).bind λp g=>.ok p.1 (g.set i (some (s.with (l.set k (.tup p.2)))))
   |none=>.bad
  else .bad
 |_,.mv c i k j,fr=>match qf c fr[i]? with
  |some (s,l)=>(R.of (uA c l k j) fr).bind λq g=>.ok .aV (g.set i (some (s.with q)))
  |none=>.bad
 |_,.bJ c f es,fr=>if wo c fr es then (fM P es fr).bind λh e=>b8 P f h e else .bad
termination_by _ e=>(sizeOf e,0)
noncomputable def bq(P:aQ):Bool->Es->Fr->R (List V)
 |_,.nil,fr=>.ok [] fr
 |k,.cons e es,fr=>(ev P (k&&kf e (cP es)) e fr).bind λd a=>(bq P k es a).bind λds b=>.ok (d :: ds) b
termination_by _ e=>(sizeOf e,0)
noncomputable def fM(P:aQ):Es->Fr->R (List (Nat ⊕ V))
 |.nil,fr=>.ok [] fr
 |.cons e es,fr=>match lN fr e with
   |some i=>(fM P es fr).bind λr a=>.ok (.inl i :: r) a
   |none=>(ev P false e fr).bind λd a=>(fM P es a).bind λr b=>.ok (.inr d :: r) b
termination_by e=>(sizeOf e,0)
noncomputable def gg(P:aQ):Eo->Fr->R (Option Int)
 |.no,fr=>.ok none fr
 |.yes e,fr=>(ev P true e fr).bind λd a=>R.of ((intOf d).map some) a
termination_by e=>(sizeOf e,0)
noncomputable def iI(P:aQ):Eo->Fr->R Bool
 |.no,fr=>.ok true fr
 |.yes e,fr=>aM P e fr
termination_by e=>(sizeOf e,0)
noncomputable def aM(P:aQ):E->Fr->R Bool
 |.an a b,fr=>(aM P a fr).bind λk c=>if k then aM P b c else .ok false c
 |.orr a b,fr=>(aM P a fr).bind λk c=>if k then .ok true c else aM P b c
 |.nt a,fr=>(aM P a fr).bind λk c=>.ok (!k) c
 |e,fr=>(ev P true e fr).bind λx c=>.ok (truthy x) c
termination_by e=>(sizeOf e,1)
noncomputable def dj(P:aQ):Bool->It->Fr->R (List V)
 |k,.seq e,fr=>(src k fr e (ev P k e fr)).bind λx b=>R.of (fP x) b
 |_,.fh es,fr=>(bq P true es fr).bind λds b=>R.of (dw ds) b
 |_,.rev a,fr=>(ev P true a fr).bind λx b=>R.of ((AG x).map λs=>s.reverse) b
termination_by _ e=>(sizeOf e,0)
end
noncomputable def isNew:E->Bool
 |.lst _=>true
 |.gP _=>true
 |_=>false
mutual
noncomputable def ex(P:aQ)(w:Nat):S->Fr->R Fl
 |.set i e,fr=>(ev P false e (sZ e fr)).bind λx h=>if isNew e then (match x with
   |.lst l=>(R.of (put h i (.own l)) h).bind λo _=>.ok .nx o
   |_=>.bad)
  else (R.of (put h i (.val x)) h).bind λo _=>.ok .nx o
 |.exp e,fr=>(ev P true e fr).bind λ_ h=>.ok .nx h
 |.ret e,fr=>(ev P false e (gh fr)).bind λx h=>.ok (.ret x) h
 |.iff t a b,fr=>(aM P t fr).bind λk h=>if k then exs P w a h else exs P w b h
 |.for t it b,fr=>(dj P false it (uW (itv it) fr)).bind λs h=>forL (λd o=>match cI t d o with
   |some p=>exs P w b p
   |none=>.bad) s h
 |.pY t b,fr=>eg (λo=>aM P t o) (λo=>exs P w b o) w fr
 |.fC _,_=>.bad
 |.fst c i k e,fr=>(ev P false e fr).bind λx h=>match qf c h[i]? with
  |some (s,l)=>if k<c.nv/\k<l.length then .ok .nx (h.set i (some (s.with (l.set k x))))else .bad
  |none=>.bad
 |.pZ c i k,fr=>match qf c fr[i]? with
  |some (s,l)=>if (c.nv<=k/\k<c.nl)/\k<l.length then .ok .nx (fr.set i (some (s.with (l.set k (.tup [])))))else .bad
  |none=>.bad
 |.new c i f tp es,fr=>(bq P false es fr).bind λq dz=>(b8 P f [] dz).bind λ_ h=>(R.of (yV q tp) h).bind λl o=>if l.length=c.nm.length then (R.of (put o i (.oo c l)) o).bind λp _=>.ok .nx p else .bad
 |.qT _ _ _ _,_=>.bad
 |.tw c j _ g k,fr=>match ja c fr[k]? with
  |some l=>(b8 P g [] fr).bind λ_ h=>if l.length=c.nm.length then (R.of (put h j (.oo c l)) h).bind λo _=>.ok .nx o else .bad
  |none=>.bad
noncomputable def exs(P:aQ)(w:Nat):Ss->Fr->R Fl
 |.nil,fr=>.ok .nx fr
 |.cons s ss,fr=>(ex P w s fr).bind λp a=>match p with
   |.nx=>exs P w ss a
   |p=>.ok p a
end
noncomputable def dz(fn:Fn)(ds:List Sl):Fr:=ds.map some++List.replicate (fn.ns - fn.np) none
noncomputable def outs(np:Nat)(fr:Fr):List (List V):=(fr.take np).filterMap λo=>o.bind Sl.out
noncomputable def MX(_:Fn)(_:List Sl):Option (V×List (List V)):=none
noncomputable def run(F:List Fn)(w:Nat):Nat->aQ
 |0,_,_=>none
 |n+1,f,ds=>match F[f]? with
  |some a=>if ds.length=a.np then match exs (run F w n) w a.body (dz a ds)with
    |.ok (.ret v) fr=>some (v,outs a.np fr)
    |.ok .nx fr=>some (.aV,outs a.np fr)
    |_=>MX a ds
   else none
  |none=>none
def gz(F:List Fn)(w n f:Nat)(ds:List Sl):run F w (n+1) f ds=match F[f]? with
  |some a=>if ds.length=a.np then match exs (run F w n) w a.body (dz a ds)with
    |.ok (.ret v) fr=>some (v,outs a.np fr)
    |.ok .nx fr=>some (.aV,outs a.np fr)
    |_=>MX a ds
   else none
  |none=>none:=nd rfl
end Pv
namespace Pv
open Ev (D O Hh bS bM TY BI ME T E Es Eo It S Ss Fn big deep b2i rep cC eK bE aT cut cR ef slots bB)
section
variable(h:Hh)(S:Nat->Prop)
mutual
def Rep:V->D->Prop
 |.aV,d=>d=.aV
 |.bl b,d=>d=.bl b
 |.int i,d=>d=.int i
 |.str s,d=>d=.str s
 |.tup l,d=>∃ds,d=.tup ds/\aq l ds
 |.lst l,d=>∃n ds,d=.ref n/\S n/\h[n]?=some (.lst ds)/\aq l ds
 |.bT l,d=>∃n ds,d=.ref n/\S n/\h[n]?=some (.bT ds)/\aq l ds
def aq:List V->List D->Prop
 |[],ds=>ds=[]
 |v :: vs,ds=>∃d es,ds=d :: es/\Rep v d/\aq vs es
end
def bC:V->D->Prop
 |.lst l,d=>∃n ds,d=.ref n/\h[n]?=some (.lst ds)/\aq h S l ds
 |v,d=>Rep h S v d
def er:List V->List D->Prop
 |[],ds=>ds=[]
 |v :: vs,ds=>∃d es,ds=d :: es/\bC h S v d/\er vs es
end
abbrev U:Nat->Prop:=λ_=>True
section
variable{h h':Hh}{S S':Nat->Prop}
mutual
theorem Rep.mono(f:∀m,S m->h'[m]?=h[m]?)(g:∀m,S m->S' m):∀{v:V}{d:D},Rep h S v d->Rep h' S' v d
 |.aV,_,q=>q
 |.bl _,_,q=>q
 |.int _,_,q=>q
 |.str _,_,q=>q
 |.tup l,_,⟨ds,a,b⟩=>⟨ds,a,aq.mono f g b⟩
 |.lst l,_,⟨n,ds,a,b,c,e⟩=>⟨n,ds,a,g n b,by rw[f n b];exact c,aq.mono f g e⟩
 |.bT l,_,⟨n,ds,a,b,c,e⟩=>⟨n,ds,a,g n b,by rw[f n b];exact c,aq.mono f g e⟩
theorem aq.mono(f:∀m,S m->h'[m]?=h[m]?)(g:∀m,S m->S' m):∀{v:List V}{d:List D},aq h S v d->aq h' S' v d
 |[],_,q=>q
 |_ :: _,_,⟨d,es,a,b,c⟩=>⟨d,es,a,Rep.mono f g b,aq.mono f g c⟩
end
def aq.nil:aq h S [] []:=by simp[aq]
def aq.cons{v:V}{d:D}{vs:List V}{ds:List D}(a:Rep h S v d)(b:aq h S vs ds):aq h S (v :: vs) (d :: ds):=by simp only[aq];exact⟨d,ds,rfl,a,b⟩
def Rep.top{v:V}{d:D}(q:Rep h S v d):bC h S v d:=by
 cases v<;>first|exact q | (obtain⟨n,ds,a,b,c,e⟩:=q;exact⟨n,ds,a,c,e⟩)
def bC.u{v:V}{d:D}(q:bC h S v d):Rep h U v d:=by
 cases v with
 |lst l=>obtain⟨n,ds,a,b,c⟩:=q;exact⟨n,ds,a,trivial,b,c.mono (λ_ _=>rfl) λ_ _=>trivial⟩
 |_=>exact Rep.mono (S:=S) (λ_ _=>rfl) (λ_ _=>trivial) q
def aq.u{v:List V}{d:List D}(q:aq h S v d):aq h U v d:=q.mono (λ_ _=>rfl) λ_ _=>trivial
theorem bC.mono{v:V}{d:D}(f:∀m,m<h.length->h'[m]?=h[m]?)(k:∀m,S m->m<h.length)(g:∀m,S m->S' m)(q:bC h S v d):bC h' S' v d:=by
 cases v with
 |lst l=>
  obtain⟨n,ds,a,b,c⟩:=q;exact⟨n,ds,a,by rw[f n (List.getElem?_eq_some_iff.mp b).1];exact b,c.mono (λm z=>f m (k m z)) g⟩
 |_=>exact Rep.mono (λm z=>f m (k m z)) g q
theorem aq.length:∀{v:List V}{d:List D},aq h S v d->v.length=d.length
 |[],_,q=>by simp only[aq]at q;subst q;rfl
 |_ :: _,_,q=>by simp only[aq]at q;obtain⟨d,a,rfl,_,c⟩:=q;simp[c.length]
theorem aq.get:∀{v:List V}{d:List D}{i:Nat}{x:V},aq h S v d->v[i]?=some x->∃y,d[i]?=some y/\Rep h S x y
 |[],_,_,_,_,e=>by simp at e
 |_ :: _,_,0,_,q,e=>by
  simp only[aq]at q;obtain⟨d,f,rfl,b,_⟩:=q;simp at e;subst e;exact⟨d,by simp,b⟩
 |_ :: _,_,i+1,_,q,e=>by
  simp only[aq]at q;obtain⟨d,f,rfl,_,c⟩:=q;obtain⟨y,a,b⟩:=c.get (i:=i) (by simpa using e);exact⟨y,by simpa using a,b⟩
theorem aq.append:∀{v w:List V}{d e:List D},aq h S v d->aq h S w e->aq h S (v++w) (d++e)
 |[],_,_,_,a,b=>by simp only[aq]at a;subst a;simpa using b
 |_ :: _,_,_,_,a,b=>by
  simp only[aq]at a;obtain⟨d,c,rfl,x,y⟩:=a;exact .cons x (y.append b)
theorem aq.take:∀{v:List V}{d:List D}(n:Nat),aq h S v d->aq h S (v.take n) (d.take n)
 |_,_,0,_=>by simp[aq]
 |[],_,_+1,a=>by simp only[aq]at a;subst a;simp[aq]
 |_ :: _,_,n+1,a=>by
  simp only[aq]at a;obtain⟨d,b,rfl,x,y⟩:=a;simp only[aak];exact .cons x (y.take n)
theorem aq.drop:∀{v:List V}{d:List D}(n:Nat),aq h S v d->aq h S (v.drop n) (d.drop n)
 |_,_,0,a=>by simpa using a
 |[],_,_+1,a=>by simp only[aq]at a;subst a;simp[aq]
 |_ :: _,_,n+1,a=>by
  simp only[aq]at a;obtain⟨d,b,rfl,x,y⟩:=a;simp only[aa2];exact y.drop n
theorem aq.set:∀{v:List V}{d:List D}(j:Nat) {x:V}{y:D},aq h S v d->Rep h S x y->aq h S (v.set j x) (d.set j y)
 |[],_,_,_,_,a,_=>by simp only[aq]at a;subst a;simp[aq]
 |_ :: _,_,0,_,_,a,b=>by
  simp only[aq]at a;obtain⟨d,c,rfl,x,y⟩:=a;exact .cons b y
 |_ :: _,_,j+1,_,_,a,b=>by
  simp only[aq]at a;obtain⟨d,c,rfl,x,y⟩:=a;exact .cons x (y.set j b)
theorem aq.dropLast:∀{v:List V}{d:List D},aq h S v d->aq h S v.dropLast d.dropLast:=λ{v d} a=>by
 rw[aaD,aaD,a.length];exact a.take _
theorem aq.reverse:∀{v:List V}{d:List D},aq h S v d->aq h S v.reverse d.reverse
 |[],_,a=>by simp only[aq]at a;subst a;simp[aq]
 |_ :: _,_,a=>by
  simp only[aq]at a;obtain⟨d,b,rfl,x,y⟩:=a;simp only[Z3];exact y.reverse.append (.cons x .nil)
theorem aq.rep{v:List V}{d:List D}(a:aq h S v d):∀k:Nat,aq h S (Ev.rep k v) (Ev.rep k d)
 |0=>by simp[Ev.rep,aq]
 |k+1=>by
  have z:=aq.rep a k;simp only[Ev.rep,ZV,aaV]at z ⊢;exact a.append z
theorem aq.cut{v:List V}{d:List D}(a:aq h S v d)(lo hi:Option Int):aq h S (Ev.cut v lo hi) (Ev.cut d lo hi):=by
 unfold Ev.cut;rw[a.length];exact(a.drop _).take _
theorem aq.map{α:Type}{f:α->V}{g:α->D}(q:∀a,Rep h S (f a) (g a)):∀l:List α,aq h S (l.map f) (l.map g)
 |[]=>.nil
 |_ :: l=>.cons (q _) (aq.map q l)
mutual
theorem Rep.uniq:∀{v w:V}{d:D},Rep h U v d->Rep h U w d->v=w
 |.aV,w,_,a,b=>by simp only[Rep]at a;subst a;cases w<;>simp[Rep]at b<;>rfl
 |.bl _,w,_,a,b=>by simp only[Rep]at a;subst a;cases w<;>simp[Rep]at b<;>rw[b]
 |.int _,w,_,a,b=>by simp only[Rep]at a;subst a;cases w<;>simp[Rep]at b<;>rw[b]
 |.str _,w,_,a,b=>by simp only[Rep]at a;subst a;cases w<;>simp[Rep]at b<;>rw[b]
 |.tup l,w,_,a,b=>by
  simp only[Rep]at a;obtain⟨ds,rfl,a⟩:=a;cases w<;>simp[Rep]at b
  rw[aq.uniq a b]
 |.lst l,w,_,a,b=>by
  simp only[Rep]at a;obtain⟨n,ds,rfl,_,f,a⟩:=a;cases w<;>simp[Rep]at b
  .obtain⟨e,c,b⟩:=b;rw[f]at c;cases c;rw[aq.uniq a b]
  .obtain⟨e,c,b⟩:=b;rw[f]at c;cases c
 |.bT l,w,_,a,b=>by
  simp only[Rep]at a;obtain⟨n,ds,rfl,_,f,a⟩:=a;cases w<;>simp[Rep]at b
  .obtain⟨e,c,b⟩:=b;rw[f]at c;cases c
  .obtain⟨e,c,b⟩:=b;rw[f]at c;cases c;rw[aq.uniq a b]
theorem aq.uniq:∀{v w:List V}{d:List D},aq h U v d->aq h U w d->v=w
 |[],w,_,a,b=>by simp only[aq]at a;subst a;cases w<;>simp[aq]at b;rfl
 |x :: xs,w,_,a,b=>by
  simp only[aq]at a;obtain⟨d,k,rfl,c,f⟩:=a;cases w<;>simp only[aq]at b
  .cases b
  obtain⟨l,g,e,i,j⟩:=b;cases e;rw[Rep.uniq c i,aq.uniq f j]
end
theorem wu{n:Nat}(f:∀v b,cW n v v=some b->b=true):∀l b,cG (cW n) l l=some b->b=true
 |[],b,e=>by simp[cG]at e;exact e
 |x :: xs,b,e=>by
  simp only[cG,ZQ]at e;obtain⟨c,a,d,g,e⟩:=e;rw[f x c a,wu f xs d g]at e;simpa using e.symm
theorem wz:∀n v b,cW n v v=some b->b=true
 |0,_,_,e=>by cases e
 |n+1,v,b,e=>by
  cases v<;>first|exact wu (wz n) _ _ e | (cases e<;>first|rfl|exact beq_self_eq_true _)
theorem wA{n:Nat}(f:∀{v w:V}{d e:D}{b},cW n v w=some b->Rep h U v d->Rep h U w e->Ev.ig h n d e=some b):∀{l m:List V}{ds es:List D}{b},cG (cW n) l m=some b->aq h U l ds->aq h U m es->Ev.cG (Ev.ig h n) ds es=some b
 |[],[],_,_,b,e,p,q=>by simp only[aq]at p q;subst p q;simpa[cG,Ev.cG]using e
 |[],_ :: _,_,_,b,e,p,q=>by simp only[aq]at p q;subst p;obtain⟨_,_,rfl,_⟩:=q;simpa[cG,Ev.cG]using e
 |_ :: _,[],_,_,b,e,p,q=>by simp only[aq]at p q;subst q;obtain⟨_,_,rfl,_⟩:=p;simpa[cG,Ev.cG]using e
 |x :: xs,y :: ys,_,_,b,e,p,q=>by
  simp only[aq]at p q;obtain⟨d,ds,rfl,a,g⟩:=p;obtain⟨z,i,rfl,j,k⟩:=q;simp only[cG,ZQ]at e;obtain⟨c,o,A,r,e⟩:=e;simp[Ev.cG,f o a j,wA f r g k];simpa using e
def iM{n:Nat}{ds:List D}(q:h[n]?=some (.lst ds)):bB h n=some ds:=by simp[bB,q]
def je{n:Nat}{ds:List D}(q:h[n]?=some (.bT ds)):bB h n=some ds:=by simp[bB,q]
theorem kJ:∀(n:Nat) {v w:V}{d e:D}{b},cW n v w=some b->Rep h U v d->Rep h U w e->Ev.ig h n d e=some b
  |0,_,_,_,_,_,e,_,_=>by cases e
  |n+1,v,w,d,e,b,x,p,q=>by
    by_cases o:∃m,d=.ref m/\e=.ref m
    . obtain⟨m,rfl,rfl⟩:=o;have j:=p.uniq q;subst j;have r:=wz _ _ _ x;subst r;cases v<;>simp[Rep]at p
      . obtain⟨ds,f,y⟩:=p;show Ev.kF _ _ _ _=_;rw[Ev.kF,xC rfl,iM f];rfl
      . obtain⟨ds,f,y⟩:=p;show Ev.kF _ _ _ _=_;rw[Ev.kF,xC rfl,je f];rfl
    . cases v<;>cases w<;>simp only[Rep]at p q <;>
      first
      | (subst p;subst q;exact x)
      | (obtain⟨ds,rfl,p⟩:=p;subst q;exact x)
      | (obtain⟨ds,rfl,q⟩:=q;subst p;exact x)
      | (obtain⟨ds,rfl,p⟩:=p;obtain⟨i,rfl,q⟩:=q;exact wA (λa b c=>kJ n a b c) x p q)
      | (cases x;done)
      | (obtain⟨m,ds,rfl,_,f,p⟩:=p;obtain⟨k,i,rfl,_,g,q⟩:=q
         have l:m≠k:=λz=>o ⟨m,rfl,by rw[z]⟩;show Ev.kF _ _ _ _=_;rw[Ev.kF,ZS l,f,g];exact wA (λa b c=>kJ n a b c) x p q)
      | (cases x;obtain⟨m,ds,rfl,_,f,p⟩:=p;subst q;exact Z0 (Option.map λ_=>false) (iM f))
      | (cases x;obtain⟨m,ds,rfl,_,f,p⟩:=p;subst q;exact Z0 (Option.map λ_=>false) (je f))
      | (cases x;obtain⟨m,ds,rfl,_,f,p⟩:=p;obtain⟨i,rfl,q⟩:=q;exact Z0 (Option.map λ_=>false) (iM f))
      | (cases x;obtain⟨m,ds,rfl,_,f,p⟩:=p;obtain⟨i,rfl,q⟩:=q;exact Z0 (Option.map λ_=>false) (je f))
      | (cases x;obtain⟨m,ds,rfl,_,g,q⟩:=q;subst p;exact Z0 (Option.map λ_=>false) (iM g))
      | (cases x;obtain⟨m,ds,rfl,_,g,q⟩:=q;subst p;exact Z0 (Option.map λ_=>false) (je g))
      | (cases x;obtain⟨m,ds,rfl,_,g,q⟩:=q;obtain⟨i,rfl,p⟩:=p;exact Z0 (Option.map λ_=>false) (iM g))
      | (cases x;obtain⟨m,ds,rfl,_,g,q⟩:=q;obtain⟨i,rfl,p⟩:=p;exact Z0 (Option.map λ_=>false) (je g))
end
structure Al(h:Hh)(S:Nat->Prop)(h':Hh)(S':Nat->Prop):Prop where
 len:h.length<=h'.length
 keep:∀m,m<h.length->h'[m]?=h[m]?
 sub:∀m,S m->S' m
 new:∀m,S' m->S m\/(h.length<=m/\m<h'.length)
section
variable{h h':Hh}{S S':Nat->Prop}
def Al.refl:Al h S h S:=⟨ZO _,λ_ _=>rfl,λ_ q=>q,λ_ q=>.inl q⟩
def Al.snoc(o:O):Al h S (h++[o]) (λm=>S m\/m=h.length) where
 len:=by simp
 keep:=λm q=>by rw[gV q]
 sub:=λ_ q=>.inl q
 new:=λm q=>by
  rcases q with q|q
  .exact .inl q
  .subst q;exact .inr ⟨ZO _,by simp⟩
def iN{l:List V}{v:V}{ds:List D}(w:∀m,S m->m<h.length)(e:fq l=some v)(q:aq h S l ds):∃r h' S',Ev.alloc ds h=.ok r h'/\Rep h' S' v r/\Al h S h' S':=by
 unfold fq at e;split at e
 .rename_i z;cases e;refine⟨.ref h.length,h++[.lst ds],λm=>S m\/m=h.length,by unfold Ev.alloc;rw[xC (by rw[<-q.length];exact z)],?_,Al.snoc _⟩;simp only[Rep];refine⟨h.length,ds,rfl,.inr rfl,by simp,q.mono (λm z=>?_) λ_ z=>.inl z⟩;rw[gV (w m z)]
 .cases e
def q9{v:V}{l:List V}{d:D}(e:wj v=some l)(q:bC h S v d):∃n ds,d=.ref n/\bB h n=some ds/\aq h S l ds:=by
 cases v<;>simp[wj]at e
 .subst e;simp only[bC]at q;obtain⟨n,ds,rfl,a,b⟩:=q;exact⟨n,ds,rfl,iM a,b⟩
 .subst e;simp only[bC,Rep]at q;obtain⟨n,ds,rfl,_,a,b⟩:=q;exact⟨n,ds,rfl,je a,b⟩
mutual
theorem mQ:∀{d:D}{v:V},ofD d=some v->Rep h S v d
 |.aV,_,e=>by simp[ofD]at e;subst e;simp[Rep]
 |.bl _,_,e=>by simp[ofD]at e;subst e;simp[Rep]
 |.int _,_,e=>by simp[ofD]at e;subst e;simp[Rep]
 |.str _,_,e=>by simp[ofD]at e;subst e;simp[Rep]
 |.ref _,_,e=>by simp[ofD]at e
 |.tup ds,_,e=>by
  simp[ofD]at e;obtain⟨a,e,rfl⟩:=e;exact⟨ds,rfl,yW e⟩
theorem yW:∀{d:List D}{v:List V},wg d=some v->aq h S v d
 |[],_,e=>by simp[wg]at e;subst e;exact .nil
 |d :: ds,_,e=>by
  simp only[wg,ZQ,Vw]at e;obtain⟨v,a,c,b,rfl⟩:=e;exact .cons (mQ a) (yW b)
end
def aq.emp{l:List V}{ds:List D}(q:aq h S l ds):ds.isEmpty=l.isEmpty:=by
 have:=q.length;cases l<;>cases ds<;>simp at this ⊢
def CA{v:V}{d:D}(q:bC h S v d):Ev.truthy h d=some (truthy v):=by
 cases v<;>simp only[bC,Rep]at q
 .subst q;rfl
 .subst q;rfl
 .subst q;rfl
 .subst q;rfl
 .obtain⟨ds,rfl,q⟩:=q;simp only[Ev.truthy,truthy,q.emp]
 .obtain⟨n,ds,rfl,a,q⟩:=q;simp only[Ev.truthy,truthy,iM a,Option.map,q.emp];first|done|rw[a]
 .obtain⟨n,ds,rfl,_,a,q⟩:=q;simp only[Ev.truthy,truthy,je a,Option.map,q.emp];first|done|rw[a]
def nn{α:Type}{v:α}{p:Prop}(z:none=some v):p:=Option.noConfusion rfl (heq_of_eq z)
def MY{o:bS}{x y v:V}{d e:D}(w:∀m,S m->m<h.length)(z:bP o x y=some v)(p:bC h S x d)(q:bC h S y e):∃r h' S',Ev.bP o d e h=.ok r h'/\Rep h' S' v r/\Al h S h' S':=by
 cases o<;>cases x<;>first|exact nn z | (cases y<;>first|exact nn z|skip)
 all_goals (delta bP at z;dsimp only at z;simp only[bC,Rep]at p q)
 .subst p q;cases z;exact⟨_,_,S,rfl,rfl,.refl⟩
 .subst p q;split at z
  .rename_i k;cases z;exact⟨_,_,S,by delta Ev.bP;dsimp only;rw[xC k],rfl,.refl⟩
  .cases z
 .obtain⟨ds,rfl,p⟩:=p;obtain⟨c,rfl,q⟩:=q;split at z
  .rename_i k;cases z;exact⟨_,_,S,by delta Ev.bP;dsimp only;rw[xC (by rw[<-p.length,<-q.length];exact k)],⟨_,rfl,p.append q⟩,.refl⟩
  .cases z
 .obtain⟨n,ds,rfl,a,p⟩:=p;obtain⟨m,c,rfl,b,q⟩:=q
  delta Ev.bP;dsimp only;simp only[a,b]
  exact iN w z (p.append q)
 .subst p q;cases z;exact⟨_,_,S,rfl,rfl,.refl⟩
 .subst p q;split at z
  .rename_i k;cases z;exact⟨_,_,S,by delta Ev.bP;dsimp only;rw[xC k],rfl,.refl⟩
  .cases z
 .subst p q;split at z
  .rename_i k;cases z;exact⟨_,_,S,by delta Ev.bP;dsimp only;rw[xC k],rfl,.refl⟩
  .cases z
 .obtain⟨ds,rfl,p⟩:=p;subst q;split at z
  .rename_i k;cases z;exact⟨_,_,S,by delta Ev.bP;dsimp only;rw[xC (by rw[<-p.length];exact k)],⟨_,rfl,p.rep _⟩,.refl⟩
  .cases z
 .obtain⟨n,ds,rfl,a,p⟩:=p;subst q;split at z
  .rename_i k
   delta Ev.bP;dsimp only;simp only[a]
   rw[xC (by rw[<-p.length];exact k)];exact iN w z (p.rep _)
  .cases z
 .subst p q;split at z
  .rename_i k;cases z;exact⟨_,_,S,by delta Ev.bP;dsimp only;rw[xC k],rfl,.refl⟩
  .cases z
 .subst p q;split at z
  .rename_i k;cases z;exact⟨_,_,S,by delta Ev.bP;dsimp only;rw[xC k],rfl,.refl⟩
  .cases z
theorem ri{x:V}{d:D}(p:Rep h U x d):∀{l:List V}{ds:List D}{b},mem x l=some b->aq h U l ds->Ev.mem h d ds=some b
 |[],_,b,e,q=>by simp only[aq]at q;subst q;simpa[mem,Ev.mem]using e
 |y :: ys,_,b,e,q=>by
  simp only[aq]at q;obtain⟨j,ds,rfl,a,f⟩:=q;simp only[mem,ZQ]at e;obtain⟨c,g,k,i,e⟩:=e;simp[Ev.mem,kJ deep g a p,ri p i f];simpa using e
def yX{x y:V}{d e:D}{b:Bool}(z:isin x y=some b)(p:Rep h U x d)(q:Rep h U y e):Ev.isin d e h=some b:=by
 cases y<;>simp only[isin,reduceCtorEq]at z<;>simp only[Rep]at q
 .subst q;split at z
  .simp only[Rep]at p;subst p;simpa[Ev.isin]using z
  .cases z
 .obtain⟨ds,rfl,q⟩:=q;simpa[Ev.isin]using ri p z q
 .obtain⟨n,ds,rfl,_,a,q⟩:=q;simpa[Ev.isin,iM a]using ri p z q
 .obtain⟨n,ds,rfl,_,a,q⟩:=q;simpa[Ev.isin,je a]using ri p z q
def MZ{o:bM}{x y:V}{d e:D}{b:Bool}(z:cop o x y=some b)(p:Rep h U x d)(q:Rep h U y e):Ev.cop o d e h=some b:=by
 cases o
 case eq=>delta cop at z;dsimp only at z;delta Ev.cop;dsimp only;exact kJ deep z p q
 case ne=>
  delta cop at z;dsimp only at z;simp only[Vw]at z;obtain⟨c,z,rfl⟩:=z
  delta Ev.cop;dsimp only;simp only[kJ deep z p q];rfl
 case isin=>delta cop at z;dsimp only at z;delta Ev.cop;dsimp only;exact yX z p q
 case iH=>
  delta cop at z;dsimp only at z;simp only[Vw]at z;obtain⟨c,z,rfl⟩:=z
  delta Ev.cop;dsimp only;simp only[yX z p q];rfl
 all_goals (
  cases x<;>first|exact nn z | (cases y<;>first|exact nn z|skip)
  simp only[Rep]at p q;subst p q;exact z)
def uX{l:List V}{ds:List D}{i:Int}{v:V}(e:bE l i=some v)(q:aq h S l ds):∃d,bE ds i=some d/\Rep h S v d:=by
 unfold bE at e ⊢;rw[q.length]at e;cases z:eK ds.length i with
 |none=>rw[z]at e;cases e
 |some j=>rw[z]at e;exact q.get e
def M4{x y v:V}{d e:D}(z:eX x y=some v)(p:bC h S x d)(q:bC h S y e):∃r,Ev.eX d e h=some r/\Rep h S v r:=by
 cases x<;>cases y<;>simp only[eX,reduceCtorEq]at z<;>simp only[bC,Rep]at p q
 .subst p q;simp only[Vw]at z;obtain⟨c,z,rfl⟩:=z;exact⟨.str [c],by simp[Ev.eX,z],rfl⟩
 .obtain⟨ds,rfl,p⟩:=p;subst q;simpa[Ev.eX]using uX z p
 .obtain⟨n,ds,rfl,a,p⟩:=p;subst q;simpa[Ev.eX,iM a]using uX z p
 .obtain⟨n,ds,rfl,_,a,p⟩:=p;subst q;simpa[Ev.eX,je a]using uX z p
def M5{x v:V}{d:D}{lo hi:Option Int}(w:∀m,S m->m<h.length)(z:ir x lo hi=some v)(p:bC h S x d):∃r h' S',Ev.ir d lo hi h=.ok r h'/\Rep h' S' v r/\Al h S h' S':=by
 cases x<;>simp only[ir,reduceCtorEq]at z<;>simp only[bC,Rep]at p
 .subst p;cases z;exact⟨_,_,S,rfl,rfl,.refl⟩
 .obtain⟨ds,rfl,p⟩:=p;cases z;exact⟨_,_,S,rfl,⟨_,rfl,p.cut _ _⟩,.refl⟩
 .obtain⟨n,ds,rfl,a,p⟩:=p;simp only[Ev.ir,iM a];exact iN w z (p.cut _ _)
 .obtain⟨n,ds,rfl,_,a,p⟩:=p;simp only[Ev.ir,je a];exact iN w z (p.cut _ _)
def M6{x v:V}{d:D}(z:toT x=some v)(p:bC h S x d):∃r,Ev.sO d h=.ok r h/\Rep h S v r:=by
 cases x<;>simp only[toT,reduceCtorEq]at z<;>simp only[bC,Rep]at p
 .obtain⟨ds,rfl,p⟩:=p;cases z;exact⟨_,rfl,⟨_,rfl,p⟩⟩
 .obtain⟨n,ds,rfl,a,p⟩:=p;unfold kI at z;split at z
  .rename_i k;cases z;refine⟨.tup ds,?_,⟨_,rfl,p⟩⟩;simp only[Ev.sO,iM a];rw[xC (by rw[<-p.length];exact k)]
  .cases z
 .obtain⟨n,ds,rfl,_,a,p⟩:=p;unfold kI at z;split at z
  .rename_i k;cases z;refine⟨.tup ds,?_,⟨_,rfl,p⟩⟩;simp only[Ev.sO,je a];rw[xC (by rw[<-p.length];exact k)]
  .cases z
def Vk{x:V}{l:List V}{d:D}(z:wj x=some l)(p:bC h S x d):∃s,Ev.Lo h d=some s/\aq h S l s.1/\(∀q∈s.2,d=.ref q.1/\bB h q.1=some q.2):=by
 obtain⟨n,ds,rfl,a,q⟩:=q9 z p;exact⟨(ds,[(n,ds)]),by simp[Ev.Lo,a],q,by simp[a]⟩
theorem Ey:∀{l:List V}{ds:List D}{bs},boolsOf l=some bs->aq h S l ds->Ev.boolsOf ds=some bs
 |[],_,_,e,q=>by simp only[aq]at q;subst q;exact e
 |x :: xs,_,bs,e,q=>by
  cases x<;>simp only[boolsOf,reduceCtorEq,Vw]at e
  obtain⟨r,e,rfl⟩:=e;simp only[aq,Rep]at q;obtain⟨_,ds,rfl,rfl,q⟩:=q;simp[Ev.boolsOf,Ey e q]
theorem yY:∀{l:List V}{ds:List D}{bs},intsOf l=some bs->aq h S l ds->Ev.intsOf ds=some bs
 |[],_,_,e,q=>by simp only[aq]at q;subst q;exact e
 |x :: xs,_,bs,e,q=>by
  cases x<;>simp only[intsOf,reduceCtorEq,Vw]at e
  obtain⟨r,e,rfl⟩:=e;simp only[aq,Rep]at q;obtain⟨_,ds,rfl,rfl,q⟩:=q;simp[Ev.intsOf,yY e q]
theorem yZ:∀{l:List V}{ds:List D}{bs},strsOf l=some bs->aq h S l ds->Ev.strsOf ds=some bs
 |[],_,_,e,q=>by simp only[aq]at q;subst q;exact e
 |x :: xs,_,bs,e,q=>by
  cases x<;>simp only[strsOf,reduceCtorEq,Vw]at e
  obtain⟨r,e,rfl⟩:=e;simp only[aq,Rep]at q;obtain⟨_,ds,rfl,rfl,q⟩:=q;simp[Ev.strsOf,yZ e q]
def er.one{v:V}{ds:List D}(q:er h S [v] ds):∃d,ds=[d]/\bC h S v d:=by
 simp only[er]at q;obtain⟨d,b,rfl,a,rfl⟩:=q;exact⟨d,rfl,a⟩
def M7{b:BI}{xs:List V}{v:V}{ds:List D}(w:∀m,S m->m<h.length)(z:dS b xs=some v)(p:er h S xs ds):∃r h' S',Ev.dS b ds h=.ok r h'/\Rep h' S' v r/\Al h S h' S':=by
 delta dS at z
 rcases xs with _|⟨x,_|⟨y,_|⟨u,xs⟩⟩⟩
 .cases b<;>exact nn z
 .obtain⟨d,rfl,c⟩:=p.one;cases b
  case len=>
   cases x
   case str s=>
    dsimp only at z;simp only[bC,Rep]at c;subst c;split at z
    .rename_i k;cases z;exact⟨_,_,S,by delta Ev.dS;dsimp only;rw[xC k],rfl,.refl⟩
    .cases z
   case tup l=>
    dsimp only at z;simp only[bC,Rep]at c;obtain⟨e,rfl,f⟩:=c;cases z;exact⟨_,_,S,rfl,by simp[Rep,f.length],.refl⟩
   all_goals
    dsimp only at z;simp only[Vw]at z;obtain⟨l,z,rfl⟩:=z;obtain⟨n,e,rfl,a,q⟩:=q9 z c;exact⟨.int e.length,h,S,by delta Ev.dS;dsimp only;simp[a],by simp[Rep,q.length],.refl⟩
  case sum=>
   dsimp only at z;simp only[Vw,ZQ]at z;obtain⟨bs,⟨l,z,g⟩,rfl⟩:=z;obtain⟨n,e,rfl,a,q⟩:=q9 z c;exact⟨_,_,S,by delta Ev.dS;dsimp only;simp only[a,Option.bind,yY g q];rfl,rfl,.refl⟩
  case min=>cases x<;>exact nn z
 .cases b
  case min=>
   cases x
   case int i=>
    cases y
    case int j=>
     dsimp only at z;simp only[er,bC,Rep]at p;obtain⟨_,_,rfl,rfl,_,_,rfl,rfl,rfl⟩:=p;cases z;exact⟨_,_,S,rfl,rfl,.refl⟩
    all_goals exact nn z
   all_goals exact nn z
  case len=>cases x<;>exact nn z
  all_goals exact nn z
 .cases b
  case min=>cases x <;> (try cases y)<;>exact nn z
  case len=>cases x<;>exact nn z
  all_goals exact nn z
def M8{m:ME}{o:V}{xs:List V}{v:V}{d:D}{ds:List D}(z:fL m o xs=some v)(hm:jy m=false)(po:bC h S o d)(p:er h S xs ds):Ev.yt m d h=true/\∃r,Ev.fL m d ds h=.ok r h/\Rep h S v r:=by
 unfold fL at z;split at z
 .obtain⟨d,rfl,c⟩:=p.one;simp only[bC,Rep]at po;subst po;simp only[ZQ]at z;obtain⟨f,⟨l,z,e⟩,b⟩:=z;obtain⟨n,g,rfl,a,q⟩:=q9 z c;split at b
  .rename_i k;cases b;refine⟨rfl,_,?_,rfl⟩
   delta Ev.fL;dsimp only;simp only[a,Option.bind,yZ e q]
   rw[xC k]
  .cases b
 .cases z
def Jm{x:V}{d:D}(f:uS x=true)(p:Rep h U x d):Rep [] U x d:=by
 cases x<;>simp only[uS,Z9]at f<;>exact p
def UX{x:V}{d:D}(p:Rep h U x d):∀{kvs:List (D×D)}{v:V},m9 x kvs=some v->∃r,Ev.m9 d kvs=some r/\Rep h S v r:=by
 intro kvs v z;unfold m9 at z;split at z
 .rename_i f;have c:=Jm f p;induction kvs with
  |nil=>cases z
  |cons e r g=>
   obtain⟨k,u⟩:=e;simp only[AF]at z;simp only[Ev.m9];split at z
   .rename_i y;simp only[ZQ]at y;obtain⟨i,a,b⟩:=y;rw[kJ 1 b (mQ a) c];exact⟨u,rfl,mQ z⟩
   .rename_i y;simp only[ZQ]at y;obtain⟨i,a,b⟩:=y;rw[kJ 1 b (mQ a) c];exact g z
   .cases z
 .cases z
def Ez{x:V}{l:List V}{d:D}(z:fP x=some l)(p:bC h S x d):∃s,Ev.fP h d=some s/\aq h S l s.1/\(∀q∈s.2,d=.ref q.1/\bB h q.1=some q.2):=by
 cases x<;>simp only[fP,reduceCtorEq]at z<;>simp only[bC,Rep]at p
 .subst p;cases z;exact⟨_,rfl,aq.map (f:=λc=>V.str [c]) (g:=λc=>D.str [c]) (λ_=>by simp[Rep]) _,by simp⟩
 .obtain⟨ds,rfl,p⟩:=p;cases z;exact⟨_,rfl,p,by simp⟩
 .obtain⟨n,ds,rfl,a,p⟩:=p;cases z;exact⟨(ds,[(n,ds)]),by simp[Ev.fP,iM a],p,by simp[iM a]⟩
 .obtain⟨n,ds,rfl,_,a,p⟩:=p;cases z;exact⟨(ds,[(n,ds)]),by simp[Ev.fP,je a],p,by simp[je a]⟩
def wC(lo:Int)(n:Nat):aq h S (range lo n) (Ev.range lo n):=aq.map (f:=λ(i:Nat)=>V.int (lo+i)) (g:=λ(i:Nat)=>D.int (lo+i)) (λ_=>by simp[Rep]) _
def CB(hi:Int)(n:Nat):aq h S (eL hi n) (Ev.eL hi n):=aq.map (f:=λ(i:Nat)=>V.int (hi - i)) (g:=λ(i:Nat)=>D.int (hi - i)) (λ_=>by simp[Rep]) _
def M9{xs l:List V}{ds:List D}(z:dw xs=some l)(p:er h S xs ds):∃s,Ev.dw ds=some (s,[])/\aq h S l s:=by
 unfold dw at z;split at z
 .obtain⟨d,rfl,a⟩:=p.one;simp only[bC,Rep]at a;subst a;split at z
  .rename_i k;cases z;exact⟨_,by simp only[Ev.dw];rw[xC k],wC _ _⟩
  .cases z
 .simp only[er,bC,Rep]at p;obtain⟨_,_,rfl,rfl,_,_,rfl,rfl,rfl⟩:=p;split at z
  .rename_i k;cases z;exact⟨_,by simp only[Ev.dw];rw[xC k],wC _ _⟩
  .cases z
 .simp only[er,bC,Rep]at p;obtain⟨_,_,rfl,rfl,_,_,rfl,rfl,_,_,rfl,rfl,rfl⟩:=p;split at z
  .rename_i k;cases z;exact⟨_,by simp only[Ev.dw];rw[xC k],CB _ _⟩
  .cases z
 .cases z
theorem Jo:∀{a:List V}{ds:List D}(k:Int),aq h S a ds->aq h S (jR k a) (Ev.jR k ds)
 |[],_,_,p=>by simp only[aq]at p;subst p;simp[jR,Ev.jR,aq]
 |x :: xs,_,k,p=>by
  simp only[aq]at p;obtain⟨d,ds,rfl,b,c⟩:=p;simp only[jR,Ev.jR];exact .cons ⟨_,rfl,.cons rfl (.cons b .nil)⟩ (Jo _ c)
end
def lz(M B:Nat->Prop)(h:Hh)(S:Nat->Prop):Option Sl->Option D->Prop
 |none,p=>p=none
 |some (.val v),p=>∃d,p=some d/\Rep h S v d
 |some (.own l),p=>∃m ds,p=some (.ref m)/\(M m/\¬ B m)/\h[m]?=some (.lst ds)/\aq h S l ds
 |some (.bor l),p=>∃m ds,p=some (.ref m)/\(M m/\B m)/\h[m]?=some (.lst ds)/\aq h S l ds
 |some (.ro l),p=>∃m ds,p=some (.ref m)/\¬ M m/\h[m]?=some (.lst ds)/\aq h S l ds
 |some (.oo c l),p=>∃m ds,p=some (.ref m)/\(M m/\¬ B m)/\h[m]?=some (.obj c ds)/\aq h S l ds
 |some (.ob c l),p=>∃m ds,p=some (.ref m)/\(M m/\B m)/\h[m]?=some (.obj c ds)/\aq h S l ds
 |some (.oq c l),p=>∃m ds,p=some (.ref m)/\¬ M m/\h[m]?=some (.obj c ds)/\aq h S l ds
noncomputable def oO:Sl->List D->O
 |.oo c _,ds=>.obj c ds
 |.ob c _,ds=>.obj c ds
 |.oq c _,ds=>.obj c ds
 |_,ds=>.lst ds
noncomputable def gG:Option Sl->Bool
 |some (.own _)=>true
 |some (.bor _)=>true
 |some (.oo _ _)=>true
 |some (.ob _ _)=>true
 |_=>false
noncomputable def uB:Option Sl->Bool
 |some (.bor _)=>true
 |some (.ro _)=>true
 |some (.ob _ _)=>true
 |some (.oq _ _)=>true
 |_=>false
noncomputable def locked(fr:Fr)(i:Nat):Bool:=match fr[i]? with
 |some o=>uB o
 |none=>false
structure br(M B:Nat->Prop)(h:Hh)(S:Nat->Prop)(fr:Fr)(aj:Ev.Fr):Prop where
 wS:∀m,S m->m<h.length/\¬ M m/\¬ B m
 wM:∀m,M m->m<h.length
 wB:∀m,B m->m<h.length
 len:fr.length=aj.length
 sl:∀(i:Nat) o p,fr[i]?=some o->aj[i]?=some p->lz M B h S o p
 inj:∀(i j:Nat) o o' m,fr[i]?=some o->fr[j]?=some o'->gG o=true->gG o'=true->aj[i]?=some (some (.ref m))->aj[j]?=some (some (.ref m))->i=j
noncomputable def kO:Option O->Option Ev.Cl
 |some (.obj c _)=>some c
 |_=>none
structure Tk(X:Nat->Prop)(h:Hh)(S:Nat->Prop)(h':Hh)(S':Nat->Prop):Prop where
 len:h.length<=h'.length
 keep:∀m,m<h.length->¬ X m->h'[m]?=h[m]?
 sub:∀m,S m->S' m
 new:∀m,S' m->S m\/(h.length<=m/\m<h'.length)
 cls:∀m:Nat,m<h.length->kO h'[m]?=kO h[m]?
def Xs(M:Nat->Prop)(aj:Ev.Fr)(l:List Nat):Nat->Prop:=λm=>M m/\∃i∈l,aj[i]?=some (some (.ref m))
structure Out(M B:Nat->Prop)(c:List Nat)(h:Hh)(S:Nat->Prop)(fr:Fr)(aj:Ev.Fr)(h':Hh)(S':Nat->Prop)(af:Fr):Prop where
 f:br M B h' S' af aj
 tr:Tk (Xs M aj c) h S h' S'
 lk:∀i,locked af i=locked fr i
section
variable{M B:Nat->Prop}{h h' h1 h2:Hh}{S S' S1 S2:Nat->Prop}{fr af ao:Fr}{aj:Ev.Fr}{c c1 c2:List Nat}{v:V}{d:D}{X X1 X2:Nat->Prop}
def br.get(f:br M B h S fr aj){i:Nat}{o:Option Sl}(e:fr[i]?=some o):∃p,aj[i]?=some p/\lz M B h S o p:=by
 have h1:=(List.getElem?_eq_some_iff.mp e).1;rw[f.len]at h1;exact⟨aj[i],Rx h1,f.sl i o _ e (Rx h1)⟩
def br.w(f:br M B h S fr aj):∀m,S m->m<h.length:=λm q=>(f.wS m q).1
def Al.tr(a:Al h S h' S'):Tk X h S h' S':=⟨a.len,λm q _=>a.keep m q,a.sub,a.new
 ,λm q=>by rw[a.keep m q]
 ⟩
def Tk.al(t:Tk X h S h' S')(z:∀m,¬ X m):Al h S h' S':=⟨t.len,λm q=>t.keep m q (z m),t.sub,t.new⟩
def Tk.weak(t:Tk X h S h' S')(q:∀m,X m->X1 m):Tk X1 h S h' S':=⟨t.len,λm k z=>t.keep m k λy=>z (q m y),t.sub,t.new
 ,t.cls
 ⟩
theorem Tk.trans(a:Tk X1 h S h1 S1)(b:Tk X2 h1 S1 h2 S2):Tk (λm=>X1 m\/X2 m) h S h2 S2 where
 len:=Z2 a.len b.len
 keep:=λm q z=>by rw[b.keep m (ZN q a.len) (λy=>z (.inr y)),a.keep m q (λy=>z (.inl y))]
 sub:=λm q=>b.sub m (a.sub m q)
 new:=λm q=>by
  rcases b.new m q with q|⟨e,f⟩
  .rcases a.new m q with q|⟨e,f⟩
   .exact .inl q
   .exact .inr ⟨e,ZN f b.len⟩
  .exact .inr ⟨Z2 a.len e,f⟩
 cls:=λm q=>(b.cls m (ZN q a.len)).trans (a.cls m q)
theorem Al.trans(a:Al h S h1 S1)(b:Al h1 S1 h2 S2):Al h S h2 S2:=((a.tr (X:=λ_=>False)).trans (b.tr (X:=λ_=>False))).al λm z=>by simp at z
def Tk.refl:Tk X h S h S:=⟨ZO _,λ_ _ _=>rfl,λ_ q=>q,λ_ q=>.inl q
 ,λ_ _=>rfl
 ⟩
def Xs.app{l1 l2:List Nat}{m:Nat}:Xs M aj (l1++l2) m↔Xs M aj l1 m\/Xs M aj l2 m:=by
 unfold Xs;constructor
 .rintro⟨a,i,b,e⟩;rcases List.mem_append.mp b with b|b
  .exact .inl ⟨a,i,b,e⟩
  .exact .inr ⟨a,i,b,e⟩
 .rintro(⟨a,i,b,e⟩|⟨a,i,b,e⟩)
  .exact⟨a,i,List.mem_append.mpr (.inl b),e⟩
  .exact⟨a,i,List.mem_append.mpr (.inr b),e⟩
def Xs.nil{m:Nat}:¬ Xs M aj [] m:=by rintro⟨_,i,hi,_⟩;simp at hi
def Xs.mono{l1 l2:List Nat}(q:∀i∈l1,i∈l2){m:Nat}:Xs M aj l1 m->Xs M aj l2 m:=λ⟨a,i,b,e⟩=>⟨a,i,q i b,e⟩
def Rep.tr(q:Rep h S v d)(f:br M B h S fr aj)(t:Tk (Xs M aj c) h S h' S'):Rep h' S' v d:=q.mono (λm z=>t.keep m (f.wS m z).1 (λy=>(f.wS m z).2.1 y.1)) t.sub
def aq.tr{l:List V}{ds:List D}(q:aq h S l ds)(f:br M B h S fr aj)(t:Tk (Xs M aj c) h S h' S'):aq h' S' l ds:=q.mono (λm z=>t.keep m (f.wS m z).1 (λy=>(f.wS m z).2.1 y.1)) t.sub
def bC.tr(q:bC h S v d)(f:br M B h S fr aj)(t:Tk X h S h' S')(z:∀m,¬ X m):bC h' S' v d:=q.mono (λm k=>t.keep m k (z m)) f.w t.sub
def lz.al{o:Option Sl}{p:Option D}(q:lz M B h S o p)(w:∀m,S m->m<h.length)(a:Al h S h' S'):lz M B h' S' o p:=by
 have k:∀m,S m->h'[m]?=h[m]?:=λm z=>a.keep m (w m z);have g:∀(m:Nat) (ds:O),h[m]?=some ds->h'[m]?=some ds:=λm ds z=>by rw[a.keep m (List.getElem?_eq_some_iff.mp z).1];exact z
 rcases o with _|s
 .exact q
 .cases s with
  |val v=>obtain⟨d,e,q⟩:=q;exact⟨d,e,q.mono k a.sub⟩
  |own l=>obtain⟨m,ds,e,z,y,q⟩:=q;exact⟨m,ds,e,z,g m _ y,q.mono k a.sub⟩
  |bor l=>obtain⟨m,ds,e,z,y,q⟩:=q;exact⟨m,ds,e,z,g m _ y,q.mono k a.sub⟩
  |ro l=>obtain⟨m,ds,e,z,y,q⟩:=q;exact⟨m,ds,e,z,g m _ y,q.mono k a.sub⟩
  |oo c l=>obtain⟨m,ds,e,z,y,q⟩:=q;exact⟨m,ds,e,z,g m _ y,q.mono k a.sub⟩
  |ob c l=>obtain⟨m,ds,e,z,y,q⟩:=q;exact⟨m,ds,e,z,g m _ y,q.mono k a.sub⟩
  |oq c l=>obtain⟨m,ds,e,z,y,q⟩:=q;exact⟨m,ds,e,z,g m _ y,q.mono k a.sub⟩
theorem br.al(f:br M B h S fr aj)(a:Al h S h' S'):br M B h' S' fr aj where
 wS:=λm q=>by
  rcases a.new m q with q|⟨j,b⟩
  .exact⟨ZN (f.wS m q).1 a.len,(f.wS m q).2⟩
  .exact⟨b,λz=>by have:=f.wM m z;omega,λz=>by have:=f.wB m z;omega⟩
 wM:=λm q=>ZN (f.wM m q) a.len
 wB:=λm q=>ZN (f.wB m q) a.len
 len:=f.len
 sl:=λi o p e g=>(f.sl i o p e g).al f.w a
 inj:=f.inj
theorem Out.refl(f:br M B h S fr aj):Out M B c h S fr aj h S fr:=⟨f,.refl,λ_=>rfl⟩
theorem Out.trans(a:Out M B c1 h S fr aj h1 S1 af)(b:Out M B c2 h1 S1 af aj h2 S2 ao):Out M B (c1++c2) h S fr aj h2 S2 ao:=⟨b.f,(a.tr.trans b.tr).weak λm z=>Xs.app.mpr z,λi=>(b.lk i).trans (a.lk i)⟩
theorem Out.al(a:Out M B c h S fr aj h1 S1 af)(b:Al h1 S1 h2 S2):Out M B c h S fr aj h2 S2 af:=⟨a.f.al b,(a.tr.trans (b.tr (X:=λ_=>False))).weak (λm z=>by rcases z with z|z;exact z;exact z.elim),a.lk⟩
theorem Out.weak(a:Out M B c h S fr aj h1 S1 af)(q:∀i∈c,i∈c1):Out M B c1 h S fr aj h1 S1 af:=⟨a.f,a.tr.weak λm z=>Xs.mono q z,a.lk⟩
def gm(k:Bool)(h:Hh)(S:Nat->Prop)(v:V)(d:D):Prop:=if k=true then bC h S v d else Rep h S v d
def gm.of{k:Bool}(q:Rep h S v d):gm k h S v d:=by unfold gm;split;exact q.top;exact q
def gm.t{k:Bool}(q:gm k h S v d):bC h S v d:=by unfold gm at q;split at q;exact q;exact q.top
def gm.n(q:gm false h S v d):Rep h S v d:=by simpa[gm]using q
def br.slot(f:br M B h S fr aj){i m:Nat}(e:aj[i]?=some (some (.ref m)))(hm:M m):∃o,fr[i]?=some o/\gG o=true:=by
 have b:i<fr.length:=by rw[f.len];exact(List.getElem?_eq_some_iff.mp e).1
 refine⟨fr[i],Rx b,?_⟩;have s:=f.sl i _ _ (Rx b) e
 revert s
 generalize fr[i]=o
 intro s;rcases o with _|g
 .cases s
 .cases g with
  |own l=>rfl
  |bor l=>rfl
  |ro l=>obtain⟨j,ds,e,y,_⟩:=s;cases e;exact absurd hm y
  |oo c l=>rfl
  |ob c l=>rfl
  |oq c l=>obtain⟨j,ds,e,y,_⟩:=s;cases e;exact absurd hm y
  |val v=>
   obtain⟨d,e,q⟩:=s;cases e;exfalso;cases v<;>simp only[Rep,reduceCtorEq]at q
   .obtain⟨_,e,_⟩:=q;cases e
   .obtain⟨n,ds,e,a,_⟩:=q;cases e;exact(f.wS _ a).2.1 hm
   .obtain⟨n,ds,e,a,_⟩:=q;cases e;exact(f.wS _ a).2.1 hm
theorem gm.tr{k:Bool}{a:E}(q:gm k h S v d)(f:br M B h S fr aj)(t:Tk (Xs M aj c) h S h' S')(hk:k=true->kf a c=true)(ha:∀i,a=.v i->aj[i]?.join=some d):gm k h' S' v d:=by
 unfold gm at q ⊢;split at q
 .rename_i e;rw[xC e];have hk:=hk e;have b:c=[]->bC h' S' v d:=λz=>q.tr f t λm y=>by subst z;exact Xs.nil y
  by_cases g:∃i,a=.v i
  .obtain⟨i0,rfl⟩:=g;simp only[kf,aaK,List.contains_eq_mem,ab4]at hk;cases v
   case lst l=>
    simp only[bC]at q ⊢;obtain⟨n,ds,rfl,o,x⟩:=q;refine⟨n,ds,rfl,?_,x.tr f t⟩;rw[t.keep n (List.getElem?_eq_some_iff.mp o).1 ?_]
    .exact o
    .rintro⟨mn,j,hj,ej⟩;have r:aj[i0]?=some (some (D.ref n)):=by
      have:=ha i0 rfl;cases z:aj[i0]? with
      |none=>rw[z]at this;cases this
      |some p=>rw[z]at this;simp at this;rw[this]
     obtain⟨A,C,F⟩:=f.slot r mn;obtain⟨G,H,I⟩:=f.slot ej mn;have:=f.inj i0 j A G n C H F I r ej;subst this;exact hk hj
   all_goals exact Rep.tr (show Rep h S _ d from q) f t
  .have:kf a c=c.isEmpty:=by
    cases a<;>first|rfl|exact absurd ⟨_,rfl⟩ g
   rw[this,List.isEmpty_iff]at hk;exact b hk
 .rename_i e;rw[ZS e];exact q.tr f t
def Jp{k:Bool}{i:Nat}(e:nh k fr i=some v)(f:br M B h S fr aj):∃d,aj[i]?.join=some d/\gm k h S v d:=by
  unfold nh at e;split at e
  . rename_i z;obtain⟨p,a,q⟩:=f.get z;obtain⟨d,rfl,q⟩:=q;cases e;exact⟨d,by rw[a];rfl,.of q⟩
  all_goals first
    | (rename_i z
       obtain⟨p,a,q⟩:=f.get z;obtain⟨m,ds,rfl,_,y,q⟩:=q;split at e
       . rename_i b;cases e;exact⟨.ref m,by rw[a];rfl,by unfold gm;rw[xC b];exact⟨m,ds,rfl,y,q⟩⟩
       . cases e)
    |cases e
def Si:Sl->List V->Prop
 |.bor l,l'=>l=l'
 |.ob _ l,l'=>l=l'
 |_,_=>False
def Sj:Sl->List V->Prop
 |.ro l,l'=>l=l'
 |.oq _ l,l'=>l=l'
 |_,_=>False
def j6{i:Nat}{s:Sl}(e:lent fr i=some s)(f:br M B h S fr aj):∃m ds l o,fr[i]?=some o/\aj[i]?=some (some (.ref m))/\h[m]?=some (oO s ds)/\aq h S l ds/\((Si s l/\M m/\gG o=true)\/(Sj s l/\¬ M m/\o=some s)):=by
 unfold lent at e;split at e
 .rename_i g z;obtain⟨p,b,q⟩:=f.get z;cases g with
  |val v=>simp[Sl.lend]at e
  |own l=>
   simp[Sl.lend]at e;subst e;obtain⟨m,ds,rfl,y,a,q⟩:=q;exact⟨m,ds,l,_,z,b,a,q,.inl ⟨rfl,y.1,rfl⟩⟩
  |bor l=>
   simp[Sl.lend]at e;subst e;obtain⟨m,ds,rfl,y,a,q⟩:=q;exact⟨m,ds,l,_,z,b,a,q,.inl ⟨rfl,y.1,rfl⟩⟩
  |ro l=>
   simp[Sl.lend]at e;subst e;obtain⟨m,ds,rfl,y,a,q⟩:=q;exact⟨m,ds,l,_,z,b,a,q,.inr ⟨rfl,y,rfl⟩⟩
  |oo c l=>
   simp[Sl.lend]at e;subst e;obtain⟨m,ds,rfl,y,a,q⟩:=q;exact⟨m,ds,l,_,z,b,a,q,.inl ⟨rfl,y.1,rfl⟩⟩
  |ob c l=>
   simp[Sl.lend]at e;subst e;obtain⟨m,ds,rfl,y,a,q⟩:=q;exact⟨m,ds,l,_,z,b,a,q,.inl ⟨rfl,y.1,rfl⟩⟩
  |oq c l=>
   simp[Sl.lend]at e;subst e;obtain⟨m,ds,rfl,y,a,q⟩:=q;exact⟨m,ds,l,_,z,b,a,q,.inr ⟨rfl,y,rfl⟩⟩
 .cases e
def uC(h:Hh)(S:Nat->Prop)(aj:Ev.Fr):List (Nat ⊕ V)->List D->Prop
 |[],ds=>ds=[]
 |.inl i :: r,ds=>∃d es,ds=d :: es/\aj[i]?=some (some d)/\uC h S aj r es
 |.inr v :: r,ds=>∃d es,ds=d :: es/\Rep h S v d/\uC h S aj r es
def oM(h:Hh)(S:Nat->Prop):List Sl->List D->List (List V)->Prop
 |[],_,os=>os=[]
 |.val _ :: sl,ds,os=>∃d es,ds=d :: es/\oM h S sl es os
 |.own _ :: _,_,_=>False
 |.oo _ _ :: _,_,_=>False
 |s :: sl,ds,os=>∃d es l r m cs,ds=d :: es/\os=l :: r/\d=.ref m/\h[m]?=some (oO s cs)/\aq h S l cs/\oM h S sl es r
def pH(P:aQ)(P':Ev.aQ):Prop:=∀f sl v os,P f sl=some (v,os)->∀(h:Hh) (S B:Nat->Prop) (ds:List D),br B B h S (sl.map some) (ds.map some)->
 ∃d h' S',P' f ds h=.ok d h'/\Rep h' S' v d/\Tk B h S h' S'/\oM h' S' sl ds os
theorem args_get(f:br M B h S fr aj):∀{as:List (Nat ⊕ V)}{sl:List Sl}{ds:List D},args fr as=some sl->uC h S aj as ds->sl.length=ds.length/\∀(a:Nat) s d,sl[a]?=some s->ds[a]?=some d->
  (∃i,as[a]?=some (.inl i)/\lent fr i=some s/\aj[i]?=some (some d))\/(∃v,s=.val v/\Rep h S v d)
 |[],sl,ds,e,q=>by
  simp[args]at e;simp only[uC]at q;subst e q;simp
 |.inl i :: r,sl,ds,e,q=>by
  simp only[args,ZQ,Vw]at e;obtain⟨s,y,l,j,rfl⟩:=e;obtain⟨d,A,rfl,o,q⟩:=q;obtain⟨h1,h2⟩:=args_get f j q;refine⟨by simp[h1],λa p x b g=>?_⟩;cases a with
  |zero=>simp at b g;subst b g;exact .inl ⟨i,by simp,y,o⟩
  |succ a=>exact(h2 a p x (by simpa using b) (by simpa using g)).imp (λ⟨i,k,z⟩=>⟨i,by simpa using k,z⟩) id
 |.inr v :: r,sl,ds,e,q=>by
  simp only[args,Vw]at e;obtain⟨l,j,rfl⟩:=e;obtain⟨d,A,rfl,o,q⟩:=q;obtain⟨h1,h2⟩:=args_get f j q;refine⟨by simp[h1],λa p x b g=>?_⟩;cases a with
  |zero=>simp at b g;subst b g;exact .inr ⟨v,rfl,o⟩
  |succ a=>exact(h2 a p x (by simpa using b) (by simpa using g)).imp (λ⟨i,k,z⟩=>⟨i,by simpa using k,z⟩) id
theorem iy:∀{as:List (Nat ⊕ V)}{a i:Nat},as[a]?=some (.inl i)->i∈bh as
 |[],_,_,e=>by simp at e
 |.inl j :: r,0,i,e=>by simp at e;subst e;simp[bh]
 |.inr j :: r,0,i,e=>by simp at e
 |.inl j :: r,a+1,i,e=>by have:=iy (as:=r) (a:=a) (i:=i) (by simpa using e);simp[bh,this]
 |.inr j :: r,a+1,i,e=>by have:=iy (as:=r) (a:=a) (i:=i) (by simpa using e);simp[bh,this]
theorem oN:∀{as:List (Nat ⊕ V)}{a b i:Nat},(bh as).Nodup->as[a]?=some (.inl i)->as[b]?=some (.inl i)->a=b
 |[],_,_,_,_,e,_=>by simp at e
 |x :: r,0,0,_,_,_,_=>rfl
 |.inr j :: r,0,b+1,i,n,e,_=>by simp at e
 |.inl j :: r,0,b+1,i,n,e,e2=>by
  simp at e;subst e;simp only[bh,abE]at n;exact absurd (iy (as:=r) (a:=b) (by simpa using e2)) n.1
 |.inr j :: r,a+1,0,i,n,_,e=>by simp at e
 |.inl j :: r,a+1,0,i,n,e2,e=>by
  simp at e;subst e;simp only[bh,abE]at n;exact absurd (iy (as:=r) (a:=a) (by simpa using e2)) n.1
 |.inl j :: r,a+1,b+1,i,n,e1,e2=>by
  simp only[bh,abE]at n;have:=oN (as:=r) (a:=a) (b:=b) (i:=i) n.2 (by simpa using e1) (by simpa using e2);omega
 |.inr j :: r,a+1,b+1,i,n,e1,e2=>by
  simp only[bh]at n;have:=oN (as:=r) (a:=a) (b:=b) (i:=i) n (by simpa using e1) (by simpa using e2);omega
def EA{s:Sl}{l:List V}:gG (some (s.with l))=gG (some s):=by cases s<;>rfl
def tu{s:Sl}{l:List V}:uB (some (s.with l))=uB (some s):=by cases s<;>rfl
theorem wD:∀{is:List Nat}{ls:List (List V)}{fr af:Fr},back is ls fr=some af->is.Nodup->af.length=fr.length/\(∀i,i∉is->af[i]?=fr[i]?)/\∀i∈is,∃(k:Nat) (s:Sl) (l:List V),is[k]?=some i/\ls[k]?=some l/\fr[i]?=some (some s)/\af[i]?=some (some (s.with l))
 |[],[],fr,af,e,_=>by simp[back]at e;subst e;simp
 |[],_ :: _,_,_,e,_=>by simp[back]at e
 |_ :: _,[],_,_,e,_=>by simp[back]at e
 |i :: is,l :: ls,fr,af,e,n=>by
  simp only[back]at e;simp only[abE]at n;split at e
  .rename_i s z;obtain⟨h1,h2,o⟩:=wD e n.2;refine⟨by simpa using h1,λj f=>?_,λj f=>?_⟩
   .simp at f;rw[h2 j f.2,Kc (λq=>f.1 q.symm)]
   .rcases List.mem_cons.mp f with rfl|f
    .exact⟨0,s,l,by simp,by simp,z,by rw[h2 j n.1,ZP (List.getElem?_eq_some_iff.mp z).1]⟩
    .obtain⟨k,p,r,a,b,c,d⟩:=o j f;have g:i≠j:=λq=>n.1 (q▸f);rw[Kc g]at c;exact⟨k+1,p,r,by simpa using a,by simpa using b,c,d⟩
  .cases e
theorem oQ(f:br M B h S fr aj):∀{as:List (Nat ⊕ V)}{sl:List Sl}{ds:List D}{os:List (List V)},args fr as=some sl->uC h S aj as ds->oM h' S' sl ds os->
    ∀(k i:Nat) l,(bh as)[k]?=some i->os[k]?=some l->∃m cs s,lent fr i=some s/\aj[i]?=some (some (.ref m))/\h'[m]?=some (oO s cs)/\aq h' S' l cs
  |[],sl,ds,os,e,q,o=>by simp[bh]
  |.inl i :: r,sl,ds,os,e,q,o=>by
    simp only[args,ZQ,Vw]at e;obtain⟨s,L,l,y,rfl⟩:=e;obtain⟨d,N,rfl,P,q⟩:=q;obtain⟨m,cs,Y,Z,_,z,z3,z4,x⟩:=j6 L f;have A:∃a b cs,os=a :: b/\h'[m]?=some (oO s cs)/\aq h' S' a cs/\oM h' S' l N b:=by
      rw[P]at z;cases z;cases s<;>first
        | (obtain⟨Q,C,a,b,m1,Na,F,G,W,H,I,J⟩:=o
           cases F;cases W;exact⟨a,b,Na,G,H,I,J⟩)
        | (rcases x with x|x<;>exact x.1.elim)
    obtain⟨a,b,Na,rfl,H,I,J⟩:=A;intro k j K g p;cases k with
    |zero=>simp[bh]at g p;subst g p;exact⟨m,Na,s,L,z,H,I⟩
    |succ k=>exact oQ f y q J k j K (by simpa[bh]using g) (by simpa using p)
  |.inr v :: r,sl,ds,os,e,q,o=>by
    simp only[args,Vw]at e;obtain⟨l,y,rfl⟩:=e;obtain⟨d,N,rfl,P,q⟩:=q;obtain⟨Q,C,F,G⟩:=o;cases F;intro k j K g p;exact oQ f y q G k j K (by simpa[bh]using g) p
theorem nj:∀{as:List (Nat ⊕ V)}{sl:List Sl}{i:Nat},args fr as=some sl->i∈bh as->∃s,lent fr i=some s
 |[],_,_,_,q=>by simp[bh]at q
 |.inl j :: r,_,i,z,q=>by
  simp only[args,ZQ,Vw]at z;obtain⟨s,b,l,a,rfl⟩:=z;simp[bh]at q;rcases q with rfl|q
  .exact⟨s,b⟩
  .exact nj a q
 |.inr u :: r,_,i,z,q=>by
  simp only[args,Vw]at z;obtain⟨l,a,rfl⟩:=z;exact nj a (by simpa[bh]using q)
def LB(fr:Fr)(aj:Ev.Fr)(as:List (Nat ⊕ V)):Nat->Prop:=λm=>∃(i:Nat) (o:Option Sl),i∈bh as/\fr[i]?=some o/\gG o=true/\aj[i]?=some (some (.ref m))
theorem LB.m(f:br M B h S fr aj){as:List (Nat ⊕ V)}:∀m,LB fr aj as m->M m:=λm ⟨i,o,_,a,b,c⟩=>by
  have s:=f.sl i o _ a c;rcases o with _|k
  .cases b
  .cases k with
   |val v=>cases b
   |ro l=>cases b
   |own l=>obtain⟨j,g,e,y,_⟩:=s;cases e;exact y.1
   |bor l=>obtain⟨j,g,e,y,_⟩:=s;cases e;exact y.1
   |oq c l=>cases b
   |oo c l=>obtain⟨j,g,e,y,_⟩:=s;cases e;exact y.1
   |ob c l=>obtain⟨j,g,e,y,_⟩:=s;cases e;exact y.1
def Jq(f:br M B h S fr aj){as:List (Nat ⊕ V)}{sl:List Sl}{ds:List D}(nd:(bh as).Nodup)(z:args fr as=some sl)(q:uC h S aj as ds):br (LB fr aj as) (LB fr aj as) h S (sl.map some) (ds.map some):=by
 have x:=LB.m f (as:=as);obtain⟨hl,G⟩:=args_get f z q;refine⟨λm y=>⟨(f.wS m y).1,λz=>(f.wS m y).2.1 (x m z),λz=>(f.wS m y).2.1 (x m z)⟩,λm y=>f.wM m (x m y),λm y=>f.wM m (x m y),by simp[hl],λa o p g l=>?_,λa b o o' m g l J K L N=>?_⟩
 .simp at g l;obtain⟨s,g,rfl⟩:=g;obtain⟨d,l,rfl⟩:=l;rcases G a s d g l with ⟨i,C,H,A⟩|⟨u,rfl,k⟩
  .obtain⟨m,P,l0,Q,F,I,W,Y,e⟩:=j6 H f;rw[A]at I;cases I;rcases e with ⟨e,Z,r⟩|⟨e,Z,r⟩
   .cases s<;>first
     | (simp only[Si]at e;subst e;exact⟨m,P,rfl,⟨⟨i,Q,iy C,F,r,A⟩,⟨i,Q,iy C,F,r,A⟩⟩,W,Y⟩)
     |exact e.elim
   .cases s<;>first
     | (simp only[Sj]at e;subst e;exact⟨m,P,rfl,λz=>Z (x m z),W,Y⟩)
     |exact e.elim
  .exact⟨d,rfl,k⟩
 .simp at g l L N;obtain⟨s,g,rfl⟩:=g;obtain⟨s',l,rfl⟩:=l;rcases G a s _ g L with ⟨i,C,H,A⟩|⟨u,rfl,k⟩
  .rcases G b s' _ l N with ⟨j,k4,k5,k6⟩|⟨u,rfl,k⟩
   .obtain⟨m1,_,l1,o1,F,I,_,_,e⟩:=j6 H f;obtain⟨m2,_,l2,o2,x1,x2,_,_,x5⟩:=j6 k5 f;have i1:gG o1=true:=by rcases e with ⟨_,_,r⟩|⟨e,_,rfl⟩;exact r;exact J
    have i2:gG o2=true:=by rcases x5 with ⟨_,_,r⟩|⟨x5,_,rfl⟩;exact r;exact K
    have:=f.inj i j o1 o2 m F x1 i1 i2 A k6;subst this;exact oN nd C k4
   .cases K
  .cases J
def nq{P:aQ}{P':Ev.aQ}(HP:pH P P'){g:Nat}{as:List (Nat ⊕ V)}{ds:List D}(e:b8 P g as fr=.ok v af)(f:br M B h S fr aj)(q:uC h S aj as ds) :
  ∃d h' S',P' g ds h=.ok d h'/\Rep h' S' v d/\Out M B (bh as) h S fr aj h' S' af:=by
 unfold b8 at e;split at e
 case isFalse=>cases e
 rename_i nd;cases z:args fr as with
 |none=>rw[z]at e;cases e
 |some sl=>
 rw[z]at e;simp only at e;cases z2:P g sl with
 |none=>rw[z2]at e;cases e
 |some vo=>
 obtain⟨v',os⟩:=vo;rw[z2]at e;simp only at e;cases z3:back (bh as) os fr with
 |none=>rw[z3]at e;cases e
 |some ao=>
 rw[z3]at e;simp at e;obtain⟨rfl,rfl⟩:=e;obtain⟨hl,hg⟩:=args_get f z q
 let B0:Nat->Prop:=LB fr aj as
 have W:∀m,B0 m->M m:=LB.m f;have F0:br B0 B0 h S (sl.map some) (ds.map some):=Jq f nd z q;obtain⟨d,h',S',c1,c2,x,c4⟩:=HP g sl v' os z2 h S B0 ds F0;obtain⟨b1,b2,b3⟩:=wD z3 nd;have hL:=oQ f z q c4;have N:∀m,S m->h'[m]?=h[m]?:=λm y=>x.keep m (f.wS m y).1 (λz=>(f.wS m y).2.1 (W m z));refine⟨d,h',S',c1,c2,⟨?_,?_,?_⟩⟩
 .refine⟨λm y=>?_,λm y=>ZN (f.wM m y) x.len,λm y=>ZN (f.wB m y) x.len,by rw[b1,f.len],λi o p C G=>?_,λi j o o' m C G y3 y4 y5 y6=>?_⟩
  .rcases x.new m y with y|⟨C,G⟩
   .exact⟨ZN (f.wS m y).1 x.len,(f.wS m y).2⟩
   .exact⟨G,λz=>by have:=f.wM m z;omega,λz=>by have:=f.wB m z;omega⟩
  .by_cases J:i∈bh as
   .obtain⟨k,s,l,r,A,H,w4⟩:=b3 i J;rw[w4]at C;cases C;obtain⟨m,cs,s',Y,K,I,F⟩:=hL k i l r A;rw[K]at G;cases G;simp only[lent,H]at Y;have b:=f.sl i _ _ H K;cases s with
    |val u=>
     exfalso;have:∃s,lent fr i=some s:=nj z J;obtain⟨s,hs⟩:=this;simp[lent,H,Sl.lend]at hs
    |own u=>cases Y;obtain⟨Z,a,e,y,_⟩:=b;cases e;exact⟨m,cs,rfl,y,I,F⟩
    |bor u=>cases Y;obtain⟨Z,a,e,y,_⟩:=b;cases e;exact⟨m,cs,rfl,y,I,F⟩
    |ro u=>
     obtain⟨Z,a,e,y,C,G⟩:=b;cases e;refine⟨m,a,rfl,y,?_,G.mono N x.sub⟩;rw[x.keep m (List.getElem?_eq_some_iff.mp C).1 (λz=>y (W m z))];exact C
    |oo c u=>cases Y;obtain⟨Z,a,e,y,_⟩:=b;cases e;exact⟨m,cs,rfl,y,I,F⟩
    |ob c u=>cases Y;obtain⟨Z,a,e,y,_⟩:=b;cases e;exact⟨m,cs,rfl,y,I,F⟩
    |oq c u=>
     obtain⟨Z,a,e,y,C,G⟩:=b;cases e;refine⟨m,a,rfl,y,?_,G.mono N x.sub⟩;rw[x.keep m (List.getElem?_eq_some_iff.mp C).1 (λz=>y (W m z))];exact C
   .rw[b2 i J]at C;have b:=f.sl i o p C G;rcases o with _|s
    .exact b
    .cases s with
     |val u=>obtain⟨d,e,q⟩:=b;exact⟨d,e,q.mono N x.sub⟩
     |own u=>
      obtain⟨m,a,rfl,r,A,H⟩:=b;refine⟨m,a,rfl,r,?_,H.mono N x.sub⟩;rw[x.keep m (f.wM m r.1) (λ⟨j,Q,K,I,F,L⟩=>J (f.inj i j _ Q m C I rfl F G L▸K))];exact A
     |bor u=>
      obtain⟨m,a,rfl,r,A,H⟩:=b;refine⟨m,a,rfl,r,?_,H.mono N x.sub⟩;rw[x.keep m (f.wM m r.1) (λ⟨j,Q,K,I,F,L⟩=>J (f.inj i j _ Q m C I rfl F G L▸K))];exact A
     |ro u=>
      obtain⟨m,a,rfl,r,A,H⟩:=b;refine⟨m,a,rfl,r,?_,H.mono N x.sub⟩;rw[x.keep m (List.getElem?_eq_some_iff.mp A).1 (λz=>r (W m z))];exact A
     |oo c u=>
      obtain⟨m,a,rfl,r,A,H⟩:=b;refine⟨m,a,rfl,r,?_,H.mono N x.sub⟩;rw[x.keep m (f.wM m r.1) (λ⟨j,Q,K,I,F,L⟩=>J (f.inj i j _ Q m C I rfl F G L▸K))];exact A
     |ob c u=>
      obtain⟨m,a,rfl,r,A,H⟩:=b;refine⟨m,a,rfl,r,?_,H.mono N x.sub⟩;rw[x.keep m (f.wM m r.1) (λ⟨j,Q,K,I,F,L⟩=>J (f.inj i j _ Q m C I rfl F G L▸K))];exact A
     |oq c u=>
      obtain⟨m,a,rfl,r,A,H⟩:=b;refine⟨m,a,rfl,r,?_,H.mono N x.sub⟩;rw[x.keep m (List.getElem?_eq_some_iff.mp A).1 (λz=>r (W m z))];exact A
  .have kind:∀(i:Nat) o,ao[i]?=some o->gG o=true->∃o0,fr[i]?=some o0/\gG o0=true:=λi o r A=>by
    by_cases J:i∈bh as
    .obtain⟨k,s,l,K,I,F,L⟩:=b3 i J;rw[L]at r;cases r;exact⟨_,F,by rw[EA]at A;exact A⟩
    .rw[b2 i J]at r;exact⟨o,r,A⟩
   obtain⟨oi,k1,k2⟩:=kind i o C y3;obtain⟨oj,k3,k4⟩:=kind j o' G y4;exact f.inj i j oi oj m k1 k3 k2 k4 y5 y6
 .exact x.weak λm z=>⟨W m z,by obtain⟨i,o,a1,a2,a3,a4⟩:=z;exact⟨i,a1,a4⟩⟩
 .intro i;unfold locked;by_cases J:i∈bh as
  .obtain⟨k,s,l,K,I,F,L⟩:=b3 i J;rw[F,L];exact tu
  .rw[b2 i J]
end
end Pv
namespace Pv
open Ev (D O Hh)
end Pv
namespace Pv
open Ev (D O Hh bS bM TY BI ME T E Es Eo It S Ss Fn big deep b2i rep cC eK bE aT cut cR ef slots bB)
section
variable{M B:Nat->Prop}{h h' h1 h2:Hh}{S S' S1 S2:Nat->Prop}{fr af ao:Fr}{aj:Ev.Fr}{c:List Nat}{v:V}{d:D}
def iO:(∀d,aP (.c d)=[])/\(∀i,aP (.v i)=[])/\(∀es,aP (.tup es)=cP es)/\(∀es,aP (.lst es)=cP es)/\(∀o a b,aP (.bin o a b)=aP a++aP b)/\(∀o a b,aP (.cmp o a b)=aP a++aP b)
 /\(∀a,aP (.nt a)=aP a)/\(∀a,aP (.neg a)=aP a)/\(∀a b,aP (.an a b)=aP a++aP b)/\(∀a b,aP (.orr a b)=aP a++aP b)/\(∀t a b,aP (.fS t a b)=aP t++(aP a++aP b))
 /\(∀a b,aP (.ix a b)=aP a++aP b)/\(∀a lo hi,aP (.sl a lo hi)=aP a++(iL lo++iL hi))
 /\(∀f es,aP (.cl f es)=cP es++eG es)/\(∀f es,aP (.bi f es)=cP es)/\(∀m o es,aP (.me m o es)=aP o++(cP es++GC m o))
 /\(∀a b c d es,aP (.fu a b c d es)=cP es)/\(∀a b i c es,aP (.fm a b i c es)=cP es++[i])/\(∀a b es,aP (.bJ a b es)=cP es++eG es)
 /\(∀a i b c,aP (.mv a i b c)=[i])
 /\(∀a,aP (.iY a)=aP a):=by and_intros<;>intros<;>rfl
def fD{n m:Nat}{o:O}(q:n≠m):(h.set n o)[m]?=h[m]?:=Kc q
def br.mM(f:br M B h S fr aj){i n:Nat}{o:Option Sl}(e:fr[i]?=some o)(hM:gG o=true)(e':aj[i]?=some (some (.ref n))):M n:=by
 have s:=f.sl i o _ e e';rcases o with _|g
 .cases hM
 .cases g with
  |val v=>cases hM
  |ro l=>cases hM
  |own l=>obtain⟨b,a,e,y,_⟩:=s;cases e;exact y.1
  |bor l=>obtain⟨b,a,e,y,_⟩:=s;cases e;exact y.1
  |oq c l=>cases hM
  |oo c l=>obtain⟨b,a,e,y,_⟩:=s;cases e;exact y.1
  |ob c l=>obtain⟨b,a,e,y,_⟩:=s;cases e;exact y.1
def br.write(f:br M B h S fr aj){i n:Nat}{s:Sl}{l':List V}{ds':List D}(e:fr[i]?=some (some s))(hM:gG (some s)=true)(e':aj[i]?=some (some (.ref n)))(q:aq h S l' ds') :
  br M B (h.set n (oO s ds')) S (fr.set i (some (s.with l'))) aj:=by
 have H:=f.mM e hM e';have r:∀m,S m->(h.set n (oO s ds'))[m]?=h[m]?:=λm z=>fD λy=>(f.wS m z).2.1 (y▸H);have K:=(List.getElem?_eq_some_iff.mp e).1;refine⟨λm y=>by simpa using f.wS m y,λm y=>by simpa using f.wM m y,λm y=>by simpa using f.wB m y,by simp[f.len],λj o p C F=>?_,λj k o L m C F N P Q W=>?_⟩
 .by_cases G:i=j
  .subst G;rw[ZP K]at C;cases C;rw[e']at F;cases F;have a:=f.sl i _ _ e e';have I:(h.set n (oO s ds'))[n]?=some (oO s ds'):=ZP (f.wM n H);cases s with
   |val v=>cases hM
   |ro l=>cases hM
   |own l=>obtain⟨J,_,e,y,_⟩:=a;cases e;exact⟨n,ds',rfl,y,I,q.mono r λ_ z=>z⟩
   |bor l=>obtain⟨J,_,e,y,_⟩:=a;cases e;exact⟨n,ds',rfl,y,I,q.mono r λ_ z=>z⟩
   |oq c l=>cases hM
   |oo c l=>obtain⟨J,_,e,y,_⟩:=a;cases e;exact⟨n,ds',rfl,y,I,q.mono r λ_ z=>z⟩
   |ob c l=>obtain⟨J,_,e,y,_⟩:=a;cases e;exact⟨n,ds',rfl,y,I,q.mono r λ_ z=>z⟩
  .rw[Kc G]at C;have a:=f.sl j o p C F;rcases o with _|X
   .exact a
   .cases X with
    |val u=>obtain⟨d,e,q⟩:=a;exact⟨d,e,q.mono r λ_ z=>z⟩
    |own u=>
     obtain⟨m,x,rfl,b,g,A⟩:=a;refine⟨m,x,rfl,b,?_,A.mono r λ_ z=>z⟩;rw[fD λ(z:n=m)=>G (f.inj i j _ _ n e C hM rfl e' (by rw[z];exact F))];exact g
    |bor u=>
     obtain⟨m,x,rfl,b,g,A⟩:=a;refine⟨m,x,rfl,b,?_,A.mono r λ_ z=>z⟩;rw[fD λ(z:n=m)=>G (f.inj i j _ _ n e C hM rfl e' (by rw[z];exact F))];exact g
    |ro u=>
     obtain⟨m,x,rfl,b,g,A⟩:=a;refine⟨m,x,rfl,b,?_,A.mono r λ_ z=>z⟩;rw[fD λ(z:n=m)=>b (z▸H)];exact g
    |oo c u=>
     obtain⟨m,x,rfl,b,g,A⟩:=a;refine⟨m,x,rfl,b,?_,A.mono r λ_ z=>z⟩;rw[fD λ(z:n=m)=>G (f.inj i j _ _ n e C hM rfl e' (by rw[z];exact F))];exact g
    |ob c u=>
     obtain⟨m,x,rfl,b,g,A⟩:=a;refine⟨m,x,rfl,b,?_,A.mono r λ_ z=>z⟩;rw[fD λ(z:n=m)=>G (f.inj i j _ _ n e C hM rfl e' (by rw[z];exact F))];exact g
    |oq c u=>
     obtain⟨m,x,rfl,b,g,A⟩:=a;refine⟨m,x,rfl,b,?_,A.mono r λ_ z=>z⟩;rw[fD λ(z:n=m)=>b (z▸H)];exact g
 .have kind:∀(j:Nat) o,(fr.set i (some (s.with l')))[j]?=some o->gG o=true->∃o0,fr[j]?=some o0/\gG o0=true:=λj o b g=>by
   by_cases G:i=j
   .subst G;exact⟨_,e,hM⟩
   .rw[Kc G]at b;exact⟨o,b,g⟩
  obtain⟨Y,Z,k2⟩:=kind j o C N;obtain⟨oj,k3,k4⟩:=kind k L F P;exact f.inj j k Y oj m Z k3 k2 k4 Q W
def Nb{m:ME}{l l':List V}{xs:List V}{n:Nat}{ds es:List D}(z:lM m l xs=some (v,l'))(e:h[n]?=some (.lst ds))(q:aq h S l ds)(p:er h S xs es)(p':Cy m=false->aq h S xs es)(hS:∀k,S k->k≠n) :
  ∃r ds',Ev.fL m (.ref n) es h=.ok r (h.set n (.lst ds'))/\Rep h S v r/\aq h S l' ds':=by
 unfold lM at z;split at z
 .have p':=p' rfl;split at z
  .rename_i k;cases z;simp only[aq]at p';obtain⟨d,_,rfl,a,rfl⟩:=p';refine⟨_,_,?_,rfl,q.append (.cons a .nil)⟩
   delta Ev.fL;dsimp only;simp only[e]
   rw[xC (by rw[<-q.length];exact k)]
  .cases z
 .split at z
  .rename_i k;cases z;obtain⟨d,rfl,a⟩:=p.one;simp only[bC]at a;obtain⟨n2,i,rfl,b,a⟩:=a;refine⟨_,_,?_,rfl,q.append a⟩
   delta Ev.fL;dsimp only;simp only[e,b]
   rw[xC (by rw[<-q.length,<-a.length];exact k)]
  .cases z
 .simp only[er]at p;subst p;split at z
  .rename_i x y;cases z;obtain⟨d,f,g⟩:=q.get y;refine⟨d,_,?_,g,q.dropLast⟩
   delta Ev.fL;dsimp only;simp only[e]
   rw[<-q.length,f]
  .cases z
 .cases z
theorem br.set(f:br M B h S fr aj){i:Nat}(e:put fr i (.val v)=some af)(q:Rep h S v d):br M B h S af (aj.set i (some d))/\(∀j,locked af j=locked fr j)/\∀j,locked fr j=true->(aj.set i (some d))[j]?=aj[j]?:=by
 have J:af=fr.set i (some (.val v))/\locked fr i=false:=by
  unfold put at e;unfold locked;split at e
  .cases e
  .cases e
  .cases e
  .cases e
  .rename_i K L
    k3 k4
   cases e;refine⟨rfl,?_⟩;cases z:fr[i]? with
   |none=>rfl
   |some o=>
    rcases o with _|s
    .rfl
    .cases s with
     |bor l=>exact absurd z (K l)
     |ro l=>exact absurd z (L l)
     |ob c l=>exact absurd z (k3 c l)
     |oq c l=>exact absurd z (k4 c l)
     |_=>rfl
 obtain⟨rfl,y⟩:=J;have N:∀j,locked (fr.set i (some (.val v))) j=locked fr j:=λj=>by
  by_cases b:i=j
  .subst b;rw[y];unfold locked;by_cases r:i<fr.length
   .rw[ZP r];rfl
   .rw[aac (by simpa using r)]
  .unfold locked;rw[Kc b]
 refine⟨⟨f.wS,f.wM,f.wB,by simp[f.len],λj o p a g=>?_,λj k o A m a g C F G H=>?_⟩,N,λj b=>?_⟩
 .by_cases b:i=j
  .subst b;have r:i<fr.length:=by have:=(List.getElem?_eq_some_iff.mp a).1;simpa using this
   rw[ZP r]at a;rw[ZP (by rw[<-f.len];exact r)]at g;cases a;cases g;exact⟨d,rfl,q⟩
  .rw[Kc b]at a g;exact f.sl j o p a g
 .have I:∀(j:Nat) o,(fr.set i (some (.val v)))[j]?=some o->gG o=true->i≠j:=λj o x P Q=>by
   subst Q;have r:i<fr.length:=by have:=(List.getElem?_eq_some_iff.mp x).1;simpa using this
   rw[ZP r]at x;cases x;cases P
  have n1:=I j o a C;have n2:=I k A g F;rw[Kc n1]at a G;rw[Kc n2]at g H;exact f.inj j k o A m a g C F G H
 .have:i≠j:=λz=>by subst z;rw[y]at b;cases b
  rw[Kc this]
theorem br.cV:∀{is:List Nat}{vs:List V}{ds:List D}{fr af:Fr}{aj:Ev.Fr},br M B h S fr aj->cV is vs fr=some af->aq h S vs ds->∃bV,Ev.cV is ds aj=some bV/\br M B h S af bV/\(∀j,locked af j=locked fr j)/\∀j,locked fr j=true->bV[j]?=aj[j]?
 |[],[],ds,fr,af,aj,f,e,q=>by
  simp[Pv.cV]at e;simp only[aq]at q;subst e q;exact⟨aj,rfl,f,λ_=>rfl,λ_ _=>rfl⟩
 |[],_ :: _,_,_,_,_,_,e,_=>by simp[Pv.cV]at e
 |_ :: _,[],_,_,_,_,_,e,_=>by simp[Pv.cV]at e
 |i :: is,v :: vs,ds,fr,af,aj,f,e,q=>by
  simp only[Pv.cV,ZQ]at e;obtain⟨ao,k,l⟩:=e;simp only[aq]at q;obtain⟨d,z,rfl,o,p⟩:=q;obtain⟨f2,b,r⟩:=f.set k o;obtain⟨bV,a,f3,x,y⟩:=f2.cV l p;exact⟨bV,a,f3,λj=>(x j).trans (b j),λj g=>(y j (by rw[b j];exact g)).trans (r j g)⟩
theorem br.cI(f:br M B h S fr aj){t:T}(e:cI t v fr=some af)(q:Rep h S v d):∃bV,Ev.cI t d aj=some bV/\br M B h S af bV/\(∀j,locked af j=locked fr j)/\∀j,locked fr j=true->bV[j]?=aj[j]?:=by
 cases t with
 |one i=>exact⟨_,rfl,f.set e q⟩
 |many l=>
  cases v<;>simp only[Pv.cI,reduceCtorEq]at e
  simp only[Rep]at q;obtain⟨ds,rfl,q⟩:=q;exact f.cV e q
theorem br.undef(f:br M B h S fr aj){t:T}(e:undef t fr=true):Ev.undef t aj=true:=by
 unfold Pv.undef at e;unfold Ev.undef;rw[List.all_eq_true]at e ⊢;intro i a;have:=e i a;cases z:fr[i]? with
 |none=>
  have:aj[i]?=none:=by
   rw[abR]at z ⊢;rw[<-f.len];exact z
  rw[this];rfl
 |some o=>
  obtain⟨p,b,q⟩:=f.get z;rw[z]at this;rcases o with _|s
  .simp only[lz]at q;subst q;rw[b];rfl
  .simp at this
def y9{i:Nat}{o:Option Sl}(e:(uz fr)[i]?=some o):∃o0,fr[i]?=some o0/\o=o0.map Sl.read:=by
 unfold uz at e;rw[Z7]at e;cases z:fr[i]? with
 |none=>rw[z]at e;cases e
 |some o0=>rw[z]at e;cases e;exact⟨o0,rfl,rfl⟩
theorem br.ro(f:br M B h S fr aj):br (λ_=>False) B h S (uz fr) aj:=by
 refine⟨λm y=>⟨(f.wS m y).1,id,(f.wS m y).2.2⟩,λm y=>y.elim,f.wB,by simp[uz,f.len],λi o p g k=>?_,λi j o x m g k r A C F=>?_⟩
 .obtain⟨e,z,rfl⟩:=y9 g;have q:=f.sl i e p z k;rcases e with _|s
  .exact q
  .cases s with
   |val v=>exact q
   |own l=>obtain⟨m,ds,a,b,c,d⟩:=q;exact⟨m,ds,a,id,c,d⟩
   |bor l=>obtain⟨m,ds,a,b,c,d⟩:=q;exact⟨m,ds,a,id,c,d⟩
   |ro l=>obtain⟨m,ds,a,b,c,d⟩:=q;exact⟨m,ds,a,id,c,d⟩
   |oo c l=>obtain⟨m,ds,a,b,c,d⟩:=q;exact⟨m,ds,a,id,c,d⟩
   |ob c l=>obtain⟨m,ds,a,b,c,d⟩:=q;exact⟨m,ds,a,id,c,d⟩
   |oq c l=>obtain⟨m,ds,a,b,c,d⟩:=q;exact⟨m,ds,a,id,c,d⟩
 .obtain⟨e,z,rfl⟩:=y9 g;rcases e with _|s
  .cases r
  .cases s<;>cases r
theorem kK:∀{ck:List (Nat×List D)},(∀q∈ck,bB h q.1=some q.2)->Ev.stays h ck=true
 |[],_=>rfl
 | (n,ds) :: r,q=>by
  simp only[Ev.stays,ZJ];refine⟨?_,kK λx a=>q x (ZY _ a)⟩;rw[q (n,ds) (aai ..)];exact Ev.Ae _
def nu{n:Nat}{ds:List D}(q:bB h n=some ds)(k:h'[n]?=h[n]?):bB h' n=some ds:=by
 unfold bB at q ⊢;rw[k];exact q
def rj{n:Nat}{ds:List D}(q:bB h n=some ds):n<h.length:=by
 unfold bB at q;cases z:h[n]? with
 |none=>rw[z]at q;cases q
 |some o=>exact(List.getElem?_eq_some_iff.mp z).1
def EB(h:Hh)(S:Nat->Prop):Option V->Option D->Prop
 |none,o=>o=none
 |some v,o=>∃d,o=some d/\Rep h S v d
theorem za{f:V->Option (Option V)}{f':D->Hh->Ev.R (Option D)}{ck:List (Nat×List D)}{h0:Hh}{S0:Nat->Prop}(w0:∀m,S0 m->m<h0.length)(st:∀q∈ck,bB h0 q.1=some q.2)
  (turn:∀v o d h S,Al h0 S0 h S->f v=some o->Rep h S v d->∃o' h' S',f' d h=.ok o' h'/\EB h' S' o o'/\Al h S h' S') :
  ∀{vs:List V} {ds:List D} {rs:List V} {h:Hh} {S:Nat->Prop},Al h0 S0 h S->cX f vs=some rs->aq h S vs ds->∃rs' h' S',Ev.cX f' ck ds h=.ok rs' h'/\aq h' S' rs rs'/\Al h S h' S'
 |[],ds,rs,h,S,a,e,q=>by
  simp[cX]at e;simp only[aq]at q;subst e q;refine⟨[],h,S,?_,.nil,.refl⟩;simp only[Ev.cX];rw[xC (kK λx i=>nu (st x i) (a.keep _ (rj (st x i))))]
 |v :: vs,ds,rs,h,S,a,e,q=>by
  simp only[cX,ZQ]at e;obtain⟨o,l,r,p,y⟩:=e;cases y;simp only[aq]at q;obtain⟨d,I,rfl,A,C⟩:=q;have w:∀m,S m->m<h.length:=λm z=>by
   rcases a.new m z with z|z
   .exact ZN (w0 m z) a.len
   .exact z.2
  obtain⟨o',h1,S1,F,b,g⟩:=turn v o d h S a l A;obtain⟨rs',h2,S2,G,k,j⟩:=za w0 st turn (a.trans g) p (C.mono (λm z=>g.keep m (w m z)) g.sub);have H:∀m,S1 m->m<h1.length:=λm z=>by
   rcases g.new m z with z|z
   .exact ZN (w m z) g.len
   .exact z.2
  refine⟨o'.toList++rs',h2,S2,?_,?_,g.trans j⟩
  .simp only[Ev.cX];rw[xC (kK λx i=>nu (st x i) (a.keep _ (rj (st x i)))),F,Ev.ak,G,Ev.ak]
  .cases o with
   |none=>simp only[EB]at b;subst b;simpa using k
   |some J=>
    simp only[EB]at b;obtain⟨K,rfl,b⟩:=b;exact .cons (b.mono (λm z=>j.keep m (H m z)) j.sub) k
end
def jT(k:Bool)(h:Hh)(S:Nat->Prop)(v:List V)(d:List D):Prop:=if k=true then er h S v d else aq h S v d
inductive Nc(P':Ev.aQ)(e:E)(k:Bool)(v:V)(M B:Nat->Prop)(h:Hh)(S:Nat->Prop)(fr:Fr)(aj:Ev.Fr)(af:Fr):Prop
 |mk (d:D) (h':Hh) (S':Nat->Prop) (c0:Ev.ev P' e aj h=.ok d h') (c1:gm k h' S' v d) (c2:Out M B (aP e) h S fr aj h' S' af):Nc P' e k v M B h S fr aj af
inductive Nd(P':Ev.aQ)(e:E)(b:Bool)(M B:Nat->Prop)(h:Hh)(S:Nat->Prop)(fr:Fr)(aj:Ev.Fr)(af:Fr):Prop
 |mk (h':Hh) (S':Nat->Prop) (c0:Ev.aM P' e aj h=.ok b h') (c1:Out M B (aP e) h S fr aj h' S' af):Nd P' e b M B h S fr aj af
inductive Nf(P':Ev.aQ)(e:Es)(k:Bool)(v:List V)(M B:Nat->Prop)(h:Hh)(S:Nat->Prop)(fr:Fr)(aj:Ev.Fr)(af:Fr):Prop
 |mk (d:List D) (h':Hh) (S':Nat->Prop) (c0:Ev.bq P' e aj h=.ok d h') (c1:jT k h' S' v d) (c2:Out M B (cP e) h S fr aj h' S' af):Nf P' e k v M B h S fr aj af
inductive Ng(P':Ev.aQ)(e:Es)(v:List (Nat ⊕ V))(M B:Nat->Prop)(h:Hh)(S:Nat->Prop)(fr:Fr)(aj:Ev.Fr)(af:Fr):Prop
 |mk (d:List D) (h':Hh) (S':Nat->Prop) (c0:Ev.bq P' e aj h=.ok d h') (c1:uC h' S' aj v d) (c2:Out M B (cP e) h S fr aj h' S' af):Ng P' e v M B h S fr aj af
inductive Nh(P':Ev.aQ)(e:Eo)(v:Option Int)(M B:Nat->Prop)(h:Hh)(S:Nat->Prop)(fr:Fr)(aj:Ev.Fr)(af:Fr):Prop
 |mk (h':Hh) (S':Nat->Prop) (c0:Ev.gg P' e aj h=.ok v h') (c1:Out M B (iL e) h S fr aj h' S' af):Nh P' e v M B h S fr aj af
inductive Ni(P':Ev.aQ)(e:Eo)(v:Bool)(M B:Nat->Prop)(h:Hh)(S:Nat->Prop)(fr:Fr)(aj:Ev.Fr)(af:Fr):Prop
 |mk (h':Hh) (S':Nat->Prop) (c0:Ev.iI P' e aj h=.ok v h') (c1:Out M B (iL e) h S fr aj h' S' af):Ni P' e v M B h S fr aj af
inductive Nj(P':Ev.aQ)(e:It)(k:Bool)(v:List V)(M B:Nat->Prop)(h:Hh)(S:Nat->Prop)(fr:Fr)(aj:Ev.Fr)(af:Fr):Prop
 |mk (s:Ev.Src) (h':Hh) (S':Nat->Prop) (c0:Ev.dj P' e aj h=.ok s h') (c1:aq h' S' v s.1) (c2:∀q∈s.2,bB h' q.1=some q.2/\(k=false->¬ M q.1)) (c3:Out M B (wm e) h S fr aj h' S' af):Nj P' e k v M B h S fr aj af
section
variable(P:aQ)(P':Ev.aQ)
def bG(e:E):Prop:=∀{k:Bool} {fr:Fr} {v:V} {af:Fr} {M B:Nat->Prop} {h:Hh} {S:Nat->Prop} {aj:Ev.Fr},ev P k e fr=.ok v af->br M B h S fr aj->Nc P' e k v M B h S fr aj af
def gX(e:E):Prop:=∀{fr:Fr} {b:Bool} {af:Fr} {M B:Nat->Prop} {h:Hh} {S:Nat->Prop} {aj:Ev.Fr},aM P e fr=.ok b af->br M B h S fr aj->Nd P' e b M B h S fr aj af
def iP(e:Es):Prop:=∀{k:Bool} {fr:Fr} {v:List V} {af:Fr} {M B:Nat->Prop} {h:Hh} {S:Nat->Prop} {aj:Ev.Fr},bq P k e fr=.ok v af->br M B h S fr aj->Nf P' e k v M B h S fr aj af
def pI(e:Es):Prop:=∀{fr:Fr} {v:List (Nat ⊕ V)} {af:Fr} {M B:Nat->Prop} {h:Hh} {S:Nat->Prop} {aj:Ev.Fr},fM P e fr=.ok v af->br M B h S fr aj->Ng P' e v M B h S fr aj af
def rq(e:Eo):Prop:=∀{fr:Fr} {v:Option Int} {af:Fr} {M B:Nat->Prop} {h:Hh} {S:Nat->Prop} {aj:Ev.Fr},gg P e fr=.ok v af->br M B h S fr aj->Nh P' e v M B h S fr aj af
def uY(e:Eo):Prop:=∀{fr:Fr} {v:Bool} {af:Fr} {M B:Nat->Prop} {h:Hh} {S:Nat->Prop} {aj:Ev.Fr},iI P e fr=.ok v af->br M B h S fr aj->Ni P' e v M B h S fr aj af
def pJ(e:It):Prop:=∀{k:Bool} {fr:Fr} {v:List V} {af:Fr} {M B:Nat->Prop} {h:Hh} {S:Nat->Prop} {aj:Ev.Fr},dj P k e fr=.ok v af->br M B h S fr aj->Nj P' e k v M B h S fr aj af
end
section
variable{P:aQ}{P':Ev.aQ}{a b e tt:E}{es:Es}{lo hi:Eo}{it:It}
def Nk{d:D}:bG P P' (.c d):=λz f=>by
 simp only[ev]at z;replace z:=aI z;obtain⟨z,g⟩:=z;subst g;exact⟨d,_,_,by simp only[Ev.ev],.of (mQ z),.refl f⟩
def Nl{i:Nat}:bG P P' (.v i):=λz f=>by
 simp only[ev]at z;replace z:=aI z;obtain⟨z,c⟩:=z;subst c;obtain⟨d,g,q⟩:=Jp z f;exact⟨d,_,_,by simp only[Ev.ev,g,Ev.bQ],q,.refl f⟩
def jT.n{h:Hh}{S:Nat->Prop}{v:List V}{d:List D}(q:jT false h S v d):aq h S v d:=by simpa[jT]using q
theorem aq.tl{h:Hh}{S:Nat->Prop}:∀{v:List V}{d:List D},aq h S v d->er h S v d
 |[],_,q=>q
 |_ :: _,_,⟨d,es,a,b,q⟩=>⟨d,es,a,b.top,q.tl⟩
def jT.t{k:Bool}{h:Hh}{S:Nat->Prop}{v:List V}{d:List D}(q:jT k h S v d):er h S v d:=by
 unfold jT at q;split at q
 .exact q
 .exact q.tl
def CC(is:iP P P' es):bG P P' (.tup es):=λz f=>by
 simp only[ev]at z;obtain⟨ds,l,g,c⟩:=ah z;replace c:=aI c;obtain⟨c,h⟩:=c;subst h;obtain⟨d,i,S',j,q,o⟩:=is g f;unfold kI at c;split at c
 .rename_i k;cases c;refine⟨.tup d,i,S',?_,.of ⟨d,rfl,q.n⟩,o⟩;simp only[Ev.ev,j,Ev.ak];rw[xC (by rw[<-q.n.length];exact k)]
 .cases c
def CD(is:iP P P' es):bG P P' (.lst es):=λz f=>by
 simp only[ev]at z;obtain⟨ds,x,d,c⟩:=ah z;replace c:=aI c;obtain⟨c,g⟩:=c;subst g;obtain⟨h,y,S',i,q,o⟩:=is d f;obtain⟨r,j,S2,k,l,p⟩:=iN o.f.w c q.n;exact⟨r,j,S2,by simp only[Ev.ev,i,Ev.ak,k],.of l,o.al p⟩
def uZ{a:E}{aj:Ev.Fr}{h h1:Hh}{d:D}(e:Ev.ev P' a aj h=.ok d h1):∀i,a=.v i->aj[i]?.join=some d:=λi hi=>by
 subst hi;simp only[Ev.ev]at e;exact(Ev.aI e).1
def two(ia:bG P P' a)(ib:bG P P' b){α:Type}{X:V->V->Fr->R α}{u:α}{fr bT:Fr}{M B:Nat->Prop}{h:Hh}{S:Nat->Prop}{aj:Ev.Fr}
  (z:((ev P (kf a (aP b)) a fr).bind λx af=>(ev P true b af).bind λy ao=>X x y ao)=.ok u bT) (f:br M B h S fr aj) :
  ∃x y d e h2 S2 ao,(∀{β:Type} (g:D->D->Hh->Ev.R β),((Ev.ev P' a aj h).bind λx h1=>(Ev.ev P' b aj h1).bind λy h2=>g x y h2)=g d e h2)/\X x y ao=.ok u bT/\bC h2 S2 x d/\bC h2 S2 y e/\Out M B (aP a++aP b) h S fr aj h2 S2 ao:=by
 replace z:=ah z;obtain⟨x,af,k,z⟩:=z;replace z:=ah z;obtain⟨y,ao,l,z⟩:=z;obtain⟨d,h1,S1,i,o,c⟩:=ia k f;obtain⟨e,h2,S2,p,q,j⟩:=ib l c.f;exact⟨x,y,d,e,h2,S2,ao,λg=>by rw[i,Ev.ak,p,Ev.ak],z,(o.tr c.f j.tr id (uZ i)).t,q.t,c.trans j⟩
def CF{o:bS}(ia:bG P P' a)(ib:bG P P' b):bG P P' (.bin o a b):=λz f=>by
 simp only[ev]at z;replace z:=two ia ib z f;obtain⟨x,y,d,e,A,S2,B,k,z,g,h,c⟩:=z;replace z:=aI z;obtain⟨z,i⟩:=z;subst i;obtain⟨r,j,S3,l,p,q⟩:=MY c.f.w z g h;exact⟨r,j,S3,by simp only[Ev.ev];rw[k];exact l,.of p,c.al q⟩
def CG{o:bM}(ia:bG P P' a)(ib:bG P P' b):bG P P' (.cmp o a b):=λz f=>by
 simp only[ev]at z;replace z:=two ia ib z f;obtain⟨x,y,d,e,c,S2,l,k,z,g,h,i⟩:=z;replace z:=aI z;obtain⟨z,j⟩:=z;subst j;simp only[Vw]at z;obtain⟨b,z,rfl⟩:=z;exact⟨.bl b,c,S2,by simp only[Ev.ev];rw[k,MZ z g.u h.u];rfl,.of rfl,i⟩
def GD(ia:bG P P' a)(ib:bG P P' b):bG P P' (.ix a b):=λz f=>by
 simp only[ev]at z;replace z:=two ia ib z f;obtain⟨x,y,d,e,c,S2,p,k,z,g,h,i⟩:=z;replace z:=aI z;obtain⟨z,j⟩:=z;subst j;obtain⟨r,l,o⟩:=M4 z g h;exact⟨r,c,S2,by simp only[Ev.ev];rw[k,l];rfl,.of o,i⟩
def Q2(ia:bG P P' a):bG P P' (.nt a):=λz f=>by
 simp only[ev]at z;replace z:=ah z;obtain⟨x,k,c,z⟩:=z;obtain⟨d,g,S1,h,i,j⟩:=ia c f;cases x<;>simp only[reduceCtorEq]at z
 cases z;have q:=i.t;simp only[bC,Rep]at q;subst q;exact⟨_,g,S1,by simp only[Ev.ev,h,Ev.ak],.of rfl,j⟩
def CH(ia:bG P P' a):bG P P' (.neg a):=λz f=>by
 simp only[ev]at z;replace z:=ah z;obtain⟨x,k,c,z⟩:=z;obtain⟨d,g,S1,h,i,j⟩:=ia c f;cases x<;>simp only[reduceCtorEq]at z
 cases z;have q:=i.t;simp only[bC,Rep]at q;subst q;exact⟨_,g,S1,by simp only[Ev.ev,h,Ev.ak],.of rfl,j⟩
def Q3(ia:bG P P' a)(ib:bG P P' b):bG P P' (.an a b):=λz f=>by
 simp only[ev]at z;replace z:=ah z;obtain⟨x,A,h,z⟩:=z;obtain⟨d,j,S1,g,l,c⟩:=ia h f;cases x<;>try (cases z;done)
 rename_i k;have q:=l.t;simp only[bC,Rep]at q;subst q;cases k with
 |true=>
  try simp only at z
  obtain⟨d,o,S2,p,r,y⟩:=ib z c.f;exact⟨d,o,S2,by simp only[Ev.ev,g,Ev.ak,p],r,c.trans y⟩
 |false=>
  try simp only at z
  cases z;exact⟨_,j,S1,by simp only[Ev.ev,g,Ev.ak],.of rfl,c.weak (by simp only[iO];intro i hi;simp[hi])⟩
def Nn(ia:bG P P' a)(ib:bG P P' b):bG P P' (.orr a b):=λz f=>by
 simp only[ev]at z;replace z:=ah z;obtain⟨x,A,h,z⟩:=z;obtain⟨d,j,S1,g,l,c⟩:=ia h f;cases x<;>try (cases z;done)
 rename_i k;have q:=l.t;simp only[bC,Rep]at q;subst q;cases k with
 |false=>
  try simp only at z
  obtain⟨d,o,S2,p,r,y⟩:=ib z c.f;exact⟨d,o,S2,by simp only[Ev.ev,g,Ev.ak,p],r,c.trans y⟩
 |true=>
  try simp only at z
  cases z;exact⟨_,j,S1,by simp only[Ev.ev,g,Ev.ak],.of rfl,c.weak (by simp only[iO];intro i hi;simp[hi])⟩
def CJ(it:gX P P' tt)(ia:bG P P' a)(ib:bG P P' b):bG P P' (.fS tt a b):=λz f=>by
 simp only[ev]at z;replace z:=ah z;obtain⟨k,q,p,z⟩:=z;obtain⟨r,S1,o,c⟩:=it p f;cases k with
 |true=>
  simp only[Z4]at z;obtain⟨d,g,S2,h,j,l⟩:=ia z c.f;exact⟨d,g,S2,by simp only[Ev.ev,o,Ev.ak,Z4,h],j,(c.trans l).weak (by simp only[iO];intro i hi;simp at hi ⊢;rcases hi with hi|hi<;>simp[hi])⟩
 |false=>
  simp only[Z9,aaH]at z;obtain⟨d,g,S2,h,j,l⟩:=ib z c.f;exact⟨d,g,S2,by simp only[Ev.ev,o,Ev.ak];rw[ZS (by decide)];exact h,j,(c.trans l).weak (by simp only[iO];intro i hi;simp at hi ⊢;rcases hi with hi|hi<;>simp[hi])⟩
def GF(ia:bG P P' a)(il:rq P P' lo)(ih:rq P P' hi):bG P P' (.sl a lo hi):=λz f=>by
 simp only[ev]at z;replace z:=ah z;obtain⟨x,I,j,z⟩:=z;replace z:=ah z;obtain⟨l,J,k,z⟩:=z;replace z:=ah z;obtain⟨u,K,o,z⟩:=z;replace z:=aI z;obtain⟨z,p⟩:=z;subst p;obtain⟨d,L,S1,i,y,c⟩:=ia j f;obtain⟨M,S2,A,g⟩:=il k c.f;obtain⟨N,S3,B,h⟩:=ih o g.f;have q:=(y.tr c.f (g.trans h).tr id (uZ i)).t;obtain⟨r,C,S4,F,G,H⟩:=M5 h.f.w z q;exact⟨r,C,S4,by simp only[Ev.ev,i,Ev.ak,A,B,F],.of G,(c.trans (g.trans h)).al H⟩
theorem lP:∀{es:Es}{fr af:Fr}{as:List (Nat ⊕ V)},fM P es fr=.ok as af->∀i∈bh as,i∈eG es
 |.nil,_,_,_,z=>by simp only[fM]at z;cases z;simp[bh]
 |.cons e es,fr,af,as,z=>by
  simp only[fM]at z;cases y:lN fr e with
  |some i=>
   rw[y]at z;simp only at z;replace z:=ah z;obtain⟨f,g,d,z⟩:=z;cases z;have h:e=.v i:=by
    cases e<;>simp only[lN,reduceCtorEq]at y
    split at y
    .cases y;rfl
    .cases y
   subst h;intro j c;simp only[bh,acy]at c;simp only[eG,acy];exact c.imp id λc=>lP d j c
  |none=>
   rw[y]at z;simp only at z;replace z:=ah z;obtain⟨x,k,l,z⟩:=z;replace z:=ah z;obtain⟨f,g,d,z⟩:=z;cases z;intro j c;simp only[bh]at c;have:=lP d j c;cases e<;>simp only[eG]<;>first|exact this|exact ZY _ this
def GG(HP:pH P P'){g:Nat}(is:pI P P' es):bG P P' (.cl g es):=λz f=>by
 simp only[ev]at z;replace z:=ah z;obtain⟨r,x,c,z⟩:=z;obtain⟨ds,y,S1,j,k,h⟩:=is c f;obtain⟨d,l,S2,o,p,q⟩:=nq HP z h.f k;exact⟨d,l,S2,by simp only[Ev.ev,j,Ev.ak,o],.of p,(h.trans q).weak (by
  simp only[iO];intro i hi;rcases List.mem_append.mp hi with hi|hi
  .exact List.mem_append.mpr (.inl hi)
  .exact List.mem_append.mpr (.inr (lP c i hi)))⟩
def GH{g:BI}(is:iP P P' es):bG P P' (.bi g es):=λz f=>by
 simp only[ev]at z;replace z:=ah z;obtain⟨q,x,d,z⟩:=z;replace z:=aI z;obtain⟨z,h⟩:=z;subst h;obtain⟨ds,y,S1,i,j,c⟩:=is d f;obtain⟨r,k,S4,l,o,p⟩:=M7 c.f.w z j.t;exact⟨r,k,S4,by simp only[Ev.ev,i,Ev.ak,l],.of o,c.al p⟩
def CK(ia:bG P P' a):bG P P' (.iY a):=λz f=>by
 simp only[ev]at z;replace z:=ah z;obtain⟨x,p,c,z⟩:=z;replace z:=aI z;obtain⟨z,g⟩:=z;subst g;obtain⟨d,h,S1,i,j,k⟩:=ia c f;obtain⟨r,l,o⟩:=M6 z j.t;exact⟨r,h,S1,by simp only[Ev.ev,i,Ev.ak,l],.of o,k⟩
def GI{m:ME}{o:E}(io:bG P P' o)(is:iP P P' es):bG P P' (.me m o es):=λ{k fr v af M B h S aj} z f=>by
  simp only[ev]at z;by_cases H:jy m=true
  . rw[xC H]at z;cases y:lN fr o with
    |none=>rw[y]at z;cases z
    |some i=>
    rw[y]at z;try simp only at z
    replace z:=ah z;obtain⟨as,ao,z1,z⟩:=z;have hy:o=.v i/\∃s,lent fr i=some s:=by
      cases o<;>simp only[lN,reduceCtorEq]at y
      rename_i j;split at y
      . rename_i hs;cases y;exact⟨rfl,Option.isSome_iff_exists.mp hs⟩
      . cases y
    obtain⟨rfl,s,hs⟩:=hy;obtain⟨n,Y,_,_,_,I,J,_,_⟩:=j6 hs f;obtain⟨ds,Q,S1,W,N,c⟩:=is z1 f;replace J:∃Y,h[n]?=some (.lst Y):=by
      cases s<;>first
        |exact⟨Y,J⟩
        | (exfalso
           have F:=c.tr.cls n (List.getElem?_eq_some_iff.mp J).1;rw[J]at F;split at z
           . rename_i q;obtain⟨p,A,G,g,rfl,_,C,K⟩:=c.f.get q;rw[I]at A;cases A;rw[C]at F;cases F
           . rename_i q;obtain⟨p,A,G,g,rfl,_,C,K⟩:=c.f.get q;rw[I]at A;cases A;rw[C]at F;cases F
           . cases z)
    obtain⟨Y,J⟩:=J;have Z:Ev.yt m (.ref n) h=true:=by cases m<;>simp[jy]at H<;>simp[Ev.yt,iM J]
    have hap:Cy m=false->aq Q S1 as ds:=λhh=>by rw[hh]at N;exact N.n
    have fin:∀s l l',ao[i]?=some (some s)->gG (some s)=true->(∀ds,oO s ds=.lst ds)->(∃G g,aj[i]?=some (some (.ref G))/\Q[G]?=some (.lst g)/\aq Q S1 l g)->lM m l as=some (v,l')->af=ao.set i (some (s.with l'))->
        Nc P' (.me m (.v i) es) k v M B h S fr aj af:=by
      intro s l l' q A k0 ⟨G,g,k3,C,K⟩ X k7;rw[I]at k3;cases k3;have mn:=c.f.mM q A I;obtain⟨r,ds',a1,a2,a3⟩:=Nb X C K N.t hap λk z y=>(c.f.wS k z).2.1 (y▸mn);have fw:=c.f.write (l':=l') q A I a3;subst k7;refine⟨r,_,S1,?_,.of (a2.mono (λm z=>fD λy=>(c.f.wS m z).2.1 (y▸mn)) λ_ z=>z),fw,?_,λj=>?_⟩
      . simp only[Ev.ev,I,Option.join,Ev.bQ,Ev.ak,Z,Z4,W];simp only[Option.bind,id,Ev.bQ,Ev.ak,Z,Z4,W];rw[k0];exact a1
      . refine⟨by simpa using c.tr.len,λm F y2=>?_,c.tr.sub,λm y=>by simpa using c.tr.new m y
          ,?_
          ⟩
        rotate_left
        . intro m F;rw[<-c.tr.cls m F];by_cases H:n=m
          . subst H;rw[ZP (List.getElem?_eq_some_iff.mp C).1,C,k0];rfl
          . rw[fD H]
        have y3:¬ Xs M aj (cP es) m:=λz=>y2 (Xs.mono (by simp only[iO];intro i hi;simp[hi]) z);have y4:m≠n:=λz=>y2 ⟨z▸mn,i,by simp[iO,GC,H],by rw[z];exact I⟩;rw[fD (λ(z:n=m)=>y4 z.symm)];exact c.tr.keep m F y3
      . rw[<-c.lk j];unfold locked;by_cases hj:i=j
        . subst hj;rw[ZP (List.getElem?_eq_some_iff.mp q).1,q];exact tu
        . rw[Kc hj]
    split at z
    . rename_i l q;have L:=c.f.get q;obtain⟨p,A,G,g,rfl,_,C,K⟩:=L;split at z
      . rename_i v' l' X;cases z;exact fin _ l l' q rfl (λ_=>rfl) ⟨G,g,A,C,K⟩ X rfl
      . cases z
    . rename_i l q;have L:=c.f.get q;obtain⟨p,A,G,g,rfl,_,C,K⟩:=L;split at z
      . rename_i v' l' X;cases z;exact fin _ l l' q rfl (λ_=>rfl) ⟨G,g,A,C,K⟩ X rfl
      . cases z
    . cases z
  . rw[ZS H]at z;replace z:=ah z;obtain⟨x,ao,z1,z⟩:=z;replace z:=ah z;obtain⟨as,cF,z2,z⟩:=z;replace z:=aI z;obtain⟨z,y0⟩:=z;subst y0;obtain⟨d,Q,S1,W,N,c⟩:=io z1 f;obtain⟨ds,h2,S2,e2,q2,o2⟩:=is z2 c.f;have hm':jy m=false:=by simpa using H
    have GJ:=(N.tr c.f o2.tr id (uZ W)).t;obtain⟨a1,r,a2,a3⟩:=M8 z hm' GJ q2.t;have Z:Ev.yt m d Q=true:=by
      unfold fL at z;split at z
      . have:=N.t;simp only[bC,Rep]at this;subst this;rfl
      . cases z
    exact⟨r,h2,S2,by simp only[Ev.ev,W,Ev.ak,Z,Z4,e2,a2],.of a3,(c.trans o2).weak (by simp only[iO];intro i hi;simp at hi ⊢;rcases hi with hi|hi<;>simp[hi])⟩
def mR{c:Ev.Cl}{i:Nat}{l:List V}{fr:Fr}{M B:Nat->Prop}{h:Hh}{S:Nat->Prop}{aj:Ev.Fr}(e:ja c fr[i]?=some l)(f:br M B h S fr aj):∃n ds,Ev.fT c h aj[i]?.join=some (n,ds)/\aq h S l ds:=by
 have g:∀d,d=c->∀n ds,h[n]?=some (.obj d ds)->Ev.fT c h (some (.ref n))=some (n,ds):=λd e n ds q=>by subst e;simp[Ev.fT,q]
 unfold ja at e;split at e
 case h_4=>cases e
 all_goals
  rename_i d o z;split at e
  case isFalse=>cases e
  rename_i j;cases e;obtain⟨p,k,n,ds,rfl,_,y,q⟩:=f.get z;exact⟨n,ds,by rw[k];exact g _ j n ds y,q⟩
def rz{c:Ev.Cl}{i:Nat}{s:Sl}{l:List V}{fr:Fr}{M B:Nat->Prop}{h:Hh}{S:Nat->Prop}{aj:Ev.Fr}(e:qf c fr[i]?=some (s,l))(f:br M B h S fr aj) :
  fr[i]?=some (some s)/\gG (some s)=true/\(∀ds,oO s ds=.obj c ds)/\∃n ds,aj[i]?=some (some (.ref n))/\Ev.fT c h aj[i]?.join=some (n,ds)/\aq h S l ds:=by
 unfold qf at e;split at e
 case h_3=>cases e
 all_goals
  rename_i j k z;split at e
  case isFalse=>cases e
  rename_i g;subst g;cases e;obtain⟨p,d,n,ds,rfl,_,y,q⟩:=f.get z;exact⟨z,rfl,λ_=>rfl,n,ds,d,by rw[d];simp[Ev.fT,y],q⟩
def rA{c:Ev.Cl}{k:Nat}{l xs:List V}{ds:List D}{h:Hh}{S:Nat->Prop}(e:nP c l k=some xs)(q:aq h S l ds):∃es,Ev.mG c ds k=some es/\aq h S xs es:=by
 unfold nP at e;split at e
 case isFalse=>cases e
 rename_i f;split at e
 .rename_i z;cases e;obtain⟨d,y,p⟩:=q.get z;simp only[Rep]at p;obtain⟨es,rfl,p⟩:=p;exact⟨es,by unfold Ev.mG;rw[xC f,y],p⟩
 .cases e
def Np{o:Ev.FU}{xs as:List V}{v:V}{es ds:List D}{h:Hh}{S:Nat->Prop}(w:∀m,S m->m<h.length)(z:qg o xs as=some v)(q:aq h S xs es)(p:er h S as ds):∃r h' S',Ev.BN o es ds h=.ok r h'/\Rep h' S' v r/\Al h S h' S':=by
 unfold qg at z;split at z
 .simp only[er]at p;subst p;cases z;exact⟨_,_,S,rfl,by simp[Rep,q.length],.refl⟩
 .simp only[er]at p;subst p;cases z;exact⟨_,_,S,rfl,by simp[Rep,q.emp],.refl⟩
 .simp only[er]at p;subst p;exact iN w z q
 .obtain⟨d,rfl,c⟩:=p.one;simp only[bC,Rep]at c;subst c;obtain⟨r,a,b⟩:=uX z q;exact⟨r,h,S,by simp only[Ev.BN,a,Ev.bQ],b,.refl⟩
 .obtain⟨d,rfl,c⟩:=p.one;simp only[bC,Rep]at c;subst c;exact iN w z (q.cut _ _)
 .cases z
def Nq{o:Ev.FM}{xs as xs':List V}{v:V}{es ds:List D}{h:Hh}{S:Nat->Prop}(z:Cz o xs as=some (v,xs'))(q:aq h S xs es)(p:aq h S as ds):∃r es',Ev.BO o es ds=some (r,es')/\Rep h S v r/\aq h S xs' es':=by
 unfold Cz at z;split at z
 .simp only[aq]at p;obtain⟨d,_,rfl,c,rfl⟩:=p;split at z
  .rename_i k;cases z;exact⟨.aV,es++[d],by simp only[Ev.BO];rw[xC (by rw[<-q.length];exact k)],rfl,q.append (.cons c .nil)⟩
  .cases z
 .simp only[aq]at p;subst p;split at z
  .rename_i x y;cases z;obtain⟨d,f,g⟩:=q.get y;exact⟨d,es.dropLast,by simp only[Ev.BO];rw[<-q.length,f],g,q.dropLast⟩
  .cases z
 .cases z
def Nr{c:Ev.Cl}{k j:Nat}{l l':List V}{ds:List D}{h:Hh}{S:Nat->Prop}(e:uA c l k j=some l')(q:aq h S l ds):∃ds',Ev.FZ c ds k j=some ds'/\aq h S l' ds':=by
 unfold uA at e;obtain⟨C,i,e⟩:=Option.bind_eq_some_iff.mp e;obtain⟨F,o,e⟩:=Option.bind_eq_some_iff.mp e;obtain⟨G,p,g⟩:=rA i q;obtain⟨H,r,f⟩:=rA o q;split at e
 .rename_i y z;split at e
  .rename_i x;cases e;obtain⟨d,A,B⟩:=f.get z;refine⟨_,by unfold Ev.FZ;rw[p,r];simp only[Option.bind];rw[<-f.length,A];simp only;rw[xC (by rw[<-g.length];exact x)],?_⟩;exact(q.set _ (show Rep h S (.tup _) (.tup _)from ⟨_,rfl,f.dropLast⟩)).set _ (show Rep h S (.tup _) (.tup _)from ⟨_,rfl,g.append (.cons B .nil)⟩)
  .cases e
 .cases e
def ny{c:Ev.Cl}{i n:Nat}{s:Sl}{l':List V}{ds':List D}{fr ao:Fr}{M B:Nat->Prop}{h h1:Hh}{S S1:Nat->Prop}{aj:Ev.Fr}{t:List Nat}(o1:Out M B t h S fr aj h1 S1 ao)(k1:ao[i]?=some (some s))(k2:gG (some s)=true)(k0:∀ds,oO s ds=.obj c ds)
  (w2:aj[i]?=some (some (.ref n))) (q:aq h1 S1 l' ds'):(∀v d,Rep h1 S1 v d->Rep (h1.set n (.obj c ds')) S1 v d)/\Out M B (t++[i]) h S fr aj (h1.set n (.obj c ds')) S1 (ao.set i (some (s.with l'))):=by
 have o:=o1.f.mM k1 k2 w2;refine⟨λv d z=>z.mono (λm z=>fD λy=>(o1.f.wS m z).2.1 (y▸o)) λ_ z=>z,by rw[<-k0];exact o1.f.write k1 k2 w2 q,?_,λj=>?_⟩
 .refine⟨by simpa using o1.tr.len,λm l r=>?_,o1.tr.sub,λm y=>by simpa using o1.tr.new m y,λm l=>?_⟩
  rotate_left
  .rw[<-o1.tr.cls m l];by_cases x:n=m
   .subst x;obtain⟨p,A,F⟩:=o1.f.get k1;rw[w2]at A;cases A;have:∃g,h1[n]?=some (oO s g):=by
     cases s<;>first | (cases k2;done) | (obtain⟨H,g,e,_,y,_⟩:=F;cases e;exact⟨g,y⟩)
    obtain⟨g,k⟩:=this;rw[ZP (List.getElem?_eq_some_iff.mp k).1,k,k0];rfl
   .rw[fD x]
  have k:¬ Xs M aj t m:=λz=>r (Xs.mono (by intro i hi;simp[hi]) z);have G:m≠n:=λz=>r ⟨z▸o,i,by simp,by rw[z];exact w2⟩;rw[fD (λ(z:n=m)=>G z.symm)];exact o1.tr.keep m l k
 .rw[<-o1.lk j];unfold locked;by_cases C:i=j
  .subst C;rw[ZP (List.getElem?_eq_some_iff.mp k1).1,k1];exact tu
  .rw[Kc C]
def CL{c:Ev.Cl}{i k:Nat}:bG P P' (.fld c i k):=λz f=>by
 simp only[ev]at z;split at z
 .rename_i l g;split at z
  .rename_i h;replace z:=aI z;obtain⟨z,j⟩:=z;subst j;obtain⟨n,ds,a,q⟩:=mR g f;obtain⟨d,o,p⟩:=q.get z;exact⟨d,_,_,by simp only[Ev.ev,a];rw[xC h,o];rfl,.of p,.refl f⟩
  .cases z
 .cases z
def GK{c:Ev.Cl}{o:Ev.FU}{i k:Nat}(is:iP P P' es):bG P P' (.fu c o i k es):=λz f=>by
 simp only[ev]at z;split at z
 case isFalse=>cases z
 rename_i d;obtain⟨L,d⟩:=Option.isSome_iff_exists.mp d;obtain⟨n0,Sk,h,_⟩:=mR d f;replace z:=ah z;obtain⟨M,N,j,z⟩:=z;obtain⟨ds,Q,S1,p,x,g⟩:=is j f;split at z
 .rename_i l y;replace z:=aI z;obtain⟨z,A⟩:=z;subst A;obtain⟨W,B,z⟩:=Option.bind_eq_some_iff.mp z;obtain⟨n,X,a,q⟩:=mR y g.f;obtain⟨C,F,G⟩:=rA B q;obtain⟨r,H,S4,I,J,K⟩:=Np g.f.w z G x.t;exact⟨r,H,S4,by simp only[Ev.ev,h,abg,Z4,p,Ev.ak,a,F,Ev.bQ,I],.of J,g.al K⟩
 .cases z
def GN{c:Ev.Cl}{o:Ev.FM}{i k:Nat}(is:iP P P' es):bG P P' (.fm c o i k es):=λz f=>by
 simp only[ev]at z;split at z
 case isFalse=>cases z
 rename_i g;obtain⟨l0,g⟩:=Option.isSome_iff_exists.mp g;obtain⟨n0,Sk,j,_⟩:=mR g f;replace z:=ah z;obtain⟨as,af,x,z⟩:=z;obtain⟨ds,y,S1,A,B,h⟩:=is x f;split at z
 .rename_i s l C;replace z:=ah z;obtain⟨p,cF,d,z⟩:=z;replace d:=aI d;obtain⟨d,F⟩:=d;subst F;obtain⟨xs,G,H⟩:=Option.bind_eq_some_iff.mp d;cases z;obtain⟨I,J,K,n,cs,L,a,q⟩:=rz C h.f;obtain⟨M,N,Q⟩:=rA G q;obtain⟨r,W,X,Y,Z⟩:=Nq (v:=p.1) (xs':=p.2) H Q B.n;obtain⟨g1,g2⟩:=ny (l':=l.set k (.tup p.2)) h I J K L (q.set k (show Rep y S1 (.tup p.2) (.tup W)from ⟨_,rfl,Z⟩));refine⟨r,_,S1,?_,.of (g1 _ _ Y),by simp only[iO];exact g2⟩;simp only[Ev.ev,j,abg,Z4,A,Ev.ak,a,N,Option.bind,X,Ev.bQ]
 .cases z
def GO{c:Ev.Cl}{i k j:Nat}:bG P P' (.mv c i k j):=λ{kk fr v af M B h S aj} z f=>by
 simp only[ev]at z;split at z
 .rename_i s l o;replace z:=ah z;obtain⟨p,I,d,z⟩:=z;replace d:=aI d;obtain⟨d,r⟩:=d;subst r;cases z;obtain⟨x,y,A,n,J,C,a,q⟩:=rz o f;obtain⟨g,F,G⟩:=Nr d q;obtain⟨K,H⟩:=ny (l':=p) (Out.refl (c:=[]) f) x y A C G;exact⟨.aV,h.set n (.obj c g),S,by simp only[Ev.ev,a,F,Ev.bQ,Ev.ak],.of rfl,by simp only[iO];exact H⟩
 .cases z
def Jr{c:Ev.Cl}{fr:Fr}{M B:Nat->Prop}{h:Hh}{S:Nat->Prop}{aj:Ev.Fr}(e:wo c fr es=true)(f:br M B h S fr aj):Ev.sP c aj h es=true:=by
 cases es with
 |nil=>cases e
 |cons a r=>
  cases a<;>simp only[wo,Z9]at e
  obtain⟨i,d⟩:=Option.isSome_iff_exists.mp e;obtain⟨n0,Sk,g,_⟩:=mR d f;simp only[Ev.sP,g,abg]
def CM(HP:pH P P'){c:Ev.Cl}{g:Nat}(is:pI P P' es):bG P P' (.bJ c g es):=λz f=>by
 simp only[ev]at z;split at z
 case isFalse=>cases z
 rename_i k;replace z:=ah z;obtain⟨y,A,h,z⟩:=z;obtain⟨ds,B,S1,l,o,j⟩:=is h f;obtain⟨d,p,S2,q,r,x⟩:=nq HP z j.f o;exact⟨d,p,S2,by simp only[Ev.ev,Jr k f,Z4,l,Ev.ak,q],.of r,(j.trans x).weak (by
  simp only[iO];intro i hi;rcases List.mem_append.mp hi with hi|hi
  .exact List.mem_append.mpr (.inl hi)
  .exact List.mem_append.mpr (.inr (lP h i hi)))⟩
def wF{elt:E}{t:T}{cond:Eo}(ii:pJ P P' it)(ic:uY P P' cond)(ie:bG P P' elt):bG P P' (.comp elt t it cond):=λz f=>by
 simp only[ev]at z;replace z:=ah z;obtain⟨vs,A,H,z⟩:=z;split at z
 case isFalse=>cases z
 rename_i I;replace z:=aI z;obtain⟨z,J⟩:=z;subst J;simp only[ZQ]at z;obtain⟨rs,K,L⟩:=z;obtain⟨s,h1,S1,M,N,Q,g⟩:=ii H f;have Wx:=g.f.ro;obtain⟨W,l,S2,p,X,C⟩:=za (f':=λd l=>match Ev.cI t d _ with
    |none=>.bad
    |some A=>(Ev.iI P' cond A l).bind λk i=>if k then (Ev.ev P' elt A i).bind λx j=>.ok (some x) j else .ok none i) (ck:=s.2) g.f.w (λq Y=>(Q q Y).1) (λv o d h S al y q=>by
  split at y
  .cases y
  .rename_i cF Z;obtain⟨kL,b1,F,_,_⟩:=(Wx.al al).cI Z q;rw[b1];split at y
   .rename_i c jE y2;obtain⟨i,S3,p,oc⟩:=ic y2 F;have Nt:Al h S i S3:=oc.tr.al λm z=>z.1;split at y
    .rename_i B;subst B;split at y
     .rename_i x pW y3;cases y;obtain⟨G,j,S4,d1,d2,od⟩:=ie y3 (F.al Nt);refine⟨some G,j,S4,?_,⟨G,rfl,d2.n⟩,Nt.trans (od.tr.al λm z=>z.1)⟩;simp only[p,Ev.ak,Z4,d1]
     .cases y
    .rename_i B;cases y;refine⟨none,i,S3,?_,rfl,Nt⟩;simp only[p,Ev.ak];rw[ZS B]
   .cases y) Al.refl K N
 obtain⟨r,j,S4,a1,a2,a3⟩:=iN (g.f.al C).w L X;refine⟨r,j,S4,?_,.of a2,(g.al C).al a3⟩;simp only[Ev.ev,M,Ev.ak];rw[xC (g.f.undef I)];refine Eq.trans (Z0 (λq:Ev.R (List D)=>q.bind λds l=>Ev.alloc ds l) p) ?_;simp only[Ev.ak,a1]
def CN(ii:pJ P P' it):bG P P' (.gP it):=λz f=>by
 simp only[ev]at z;replace z:=ah z;obtain⟨p,q,d,z⟩:=z;replace z:=aI z;obtain⟨z,g⟩:=z;subst g;obtain⟨s,x,S1,h,i,y,c⟩:=ii d f;obtain⟨r,j,S4,k,l,o⟩:=iN c.f.w z i;exact⟨r,j,S4,by simp only[Ev.ev,h,Ev.ak,k],.of l,c.al o⟩
def Nu:iP P P' .nil:=λ{k fr v af M B h S aj} z f=>by
 simp only[bq]at z;cases z;refine⟨[],_,_,by simp only[Ev.bq],?_,.refl f⟩;unfold jT;split<;>rfl
def Js(ie:bG P P' e)(is:iP P P' es):iP P P' (.cons e es):=λ{k fr v af M B h S aj} z f=>by
 simp only[bq]at z;replace z:=ah z;obtain⟨x,y,l,z⟩:=z;replace z:=ah z;obtain⟨A,C,o,z⟩:=z;cases z;obtain⟨d,F,S1,i,p,g⟩:=ie l f;obtain⟨ds,q,S2,r,c,j⟩:=is o g.f;have GJ:=p.tr (a:=e) g.f j.tr (by intro z;simp at z;exact z.2) (uZ i);refine⟨d :: ds,q,S2,by simp only[Ev.bq,i,Ev.ak,r],?_,g.trans j⟩;unfold jT at c ⊢;cases k with
 |true=>simp only[Z4]at c ⊢;exact⟨d,ds,rfl,GJ.t,c⟩
 |false=>
  simp only[Z9,aaH]at c ⊢;exact .cons (by simpa[gm]using GJ) c
def Jt:pI P P' .nil:=λz f=>by
 simp only[fM]at z;cases z;exact⟨[],_,_,by simp only[Ev.bq],rfl,.refl f⟩
def EC(ie:bG P P' e)(is:pI P P' es):pI P P' (.cons e es):=λ{fr v af M B h S aj} z f=>by
 simp only[fM]at z;cases y:lN fr e with
 |some i=>
  rw[y]at z;try simp only at z
  replace z:=ah z;obtain⟨A,C,g,z⟩:=z;cases z;have F:e=.v i/\∃s,lent fr i=some s:=by
   cases e<;>simp only[lN,reduceCtorEq]at y
   rename_i j;split at y
   .rename_i k;cases y;exact⟨rfl,Option.isSome_iff_exists.mp k⟩
   .cases y
  obtain⟨rfl,s,k⟩:=F;obtain⟨n,J,_,_,_,r,K,_,_⟩:=j6 k f;obtain⟨ds,l,S2,o,p,c⟩:=is g f;refine⟨.ref n :: ds,l,S2,?_,⟨_,_,rfl,r,p⟩,c.weak (by simp only[cP,iO];intro i hi;simpa using hi)⟩;simp only[Ev.bq,Ev.ev,r,Option.join,Option.bind,id,Ev.bQ,Ev.ak,o]
 |none=>
  rw[y]at z;try simp only at z
  replace z:=ah z;obtain⟨x,L,G,z⟩:=z;replace z:=ah z;obtain⟨A,C,g,z⟩:=z;cases z;obtain⟨d,N,S1,H,I,q⟩:=ie G f;obtain⟨ds,l,S2,o,p,c⟩:=is g q.f;exact⟨d :: ds,l,S2,by simp only[Ev.bq,H,Ev.ak,o],⟨_,_,rfl,I.n.tr q.f c.tr,p⟩,q.trans c⟩
def Q4:rq P P' .no:=λz f=>by
 simp only[gg]at z;cases z;exact⟨_,_,by simp only[Ev.gg],.refl f⟩
def Nv(ie:bG P P' e):rq P P' (.yes e):=λz f=>by
 simp only[gg]at z;replace z:=ah z;obtain⟨x,l,c,z⟩:=z;replace z:=aI z;obtain⟨z,g⟩:=z;subst g;obtain⟨d,h,S1,i,j,k⟩:=ie c f;cases x<;>simp[intOf]at z
 subst z;have q:=j.t;simp only[bC,Rep]at q;subst q;exact⟨h,S1,by simp only[Ev.gg,i,Ev.ak];rfl,k⟩
def Nx:uY P P' .no:=λz f=>by
 simp only[iI]at z;cases z;exact⟨_,_,by simp only[Ev.iI],.refl f⟩
def Ju(ie:gX P P' e):uY P P' (.yes e):=λz f=>by
 simp only[iI]at z;obtain⟨c,S1,d,g⟩:=ie z f;exact⟨c,S1,by simp only[Ev.iI,d],g⟩
def UY(ia:gX P P' a)(ib:gX P P' b):gX P P' (.an a b):=λz f=>by
 simp only[aM]at z;replace z:=ah z;obtain⟨k,p,g,z⟩:=z;obtain⟨h,S1,d,c⟩:=ia g f;cases k with
 |true=>
  simp only[Z4]at z;obtain⟨j,S2,l,o⟩:=ib z c.f;exact⟨j,S2,by simp only[Ev.aM,d,Ev.ak,Z4,l],c.trans o⟩
 |false=>
  simp only[Z9,aaH]at z;cases z;exact⟨h,S1,by simp only[Ev.aM,d,Ev.ak];rfl,c.weak (by simp only[iO];intro i hi;simp[hi])⟩
def Q5(ia:gX P P' a)(ib:gX P P' b):gX P P' (.orr a b):=λz f=>by
 simp only[aM]at z;replace z:=ah z;obtain⟨k,p,g,z⟩:=z;obtain⟨h,S1,d,c⟩:=ia g f;cases k with
 |false=>
  simp only[Z9,aaH]at z;obtain⟨j,S2,l,o⟩:=ib z c.f;exact⟨j,S2,by simp only[Ev.aM,d,Ev.ak];rw[ZS (by decide)];exact l,c.trans o⟩
 |true=>
  simp only[Z4]at z;cases z;exact⟨h,S1,by simp only[Ev.aM,d,Ev.ak];rfl,c.weak (by simp only[iO];intro i hi;simp[hi])⟩
def UZ(ia:gX P P' a):gX P P' (.nt a):=λz f=>by
 simp only[aM]at z;replace z:=ah z;obtain⟨k,i,c,z⟩:=z;obtain⟨d,S1,g,h⟩:=ia c f;cases z;exact⟨d,S1,by simp only[Ev.aM,g,Ev.ak],h⟩
def dQ(ie:bG P P' e)(h1:∀fr,aM P e fr=(ev P true e fr).bind λx af=>.ok (truthy x) af)(h2:∀fr h,Ev.aM P' e fr h=(Ev.ev P' e fr h).bind λx h1=>Ev.R.of (Ev.truthy h1 x) h1):gX P P' e:=λz f=>by
 rw[h1]at z;replace z:=ah z;obtain⟨x,af,c,z⟩:=z;cases z;obtain⟨d,h1,S1,g,i,j⟩:=ie c f;exact⟨h1,S1,by rw[h2,g,Ev.ak,CA i.t];rfl,j⟩
def Ny(ie:bG P P' e){k:Bool}{fr:Fr}{v:V}{af:Fr}{M B:Nat->Prop}{h:Hh}{S:Nat->Prop}{aj:Ev.Fr}(z:src k fr e (ev P k e fr)=.ok v af)(f:br M B h S fr aj) :
  ∃d h' S',Ev.ev P' e aj h=.ok d h'/\bC h' S' v d/\(k=false->∀n,d=.ref n->¬ M n)/\Out M B (aP e) h S fr aj h' S' af:=by
 have g:ev P k e fr=.ok v af->∃d h' S',Ev.ev P' e aj h=.ok d h'/\bC h' S' v d/\(k=false->∀n,d=.ref n->¬ M n)/\Out M B (aP e) h S fr aj h' S' af:=λz=>by
  obtain⟨d,A,S1,j,x,o⟩:=ie z f;refine⟨d,A,S1,j,x.t,λC n c=>?_,o⟩;subst C;have q:=x.n;cases v<;>simp only[Rep]at q
  .cases q.symm.trans c
  .cases q.symm.trans c
  .cases q.symm.trans c
  .cases q.symm.trans c
  .obtain⟨_,q,_⟩:=q;cases q.symm.trans c
  .obtain⟨m,ds,q,r,_⟩:=q;cases q.symm.trans c;exact(o.f.wS _ r).2.1
  .obtain⟨m,ds,q,r,_⟩:=q;cases q.symm.trans c;exact(o.f.wS _ r).2.1
 cases e
 case v i=>
  simp only[src]at z;replace z:=aI z;obtain⟨z,F⟩:=z;subst F;unfold AH at z;split at z
  .rename_i l y;cases z;obtain⟨p,j,m,ds,rfl,G,H,I⟩:=f.get y;exact⟨.ref m,h,S,by simp only[Ev.ev,j,Option.join,Option.bind,id,Ev.bQ],⟨m,ds,rfl,H,I⟩,λ_ n J=>by cases J;exact G,.refl f⟩
  .exact g (by simp only[ev,z,bQ])
 all_goals exact g z
def Nz(ie:bG P P' e):pJ P P' (.seq e):=λz f=>by
 simp only[dj]at z;replace z:=ah z;obtain⟨x,B,h,z⟩:=z;replace z:=aI z;obtain⟨z,i⟩:=z;subst i;obtain⟨d,j,S1,k,l,o,p⟩:=Ny ie h f;obtain⟨s,r,y,c⟩:=Ez z l;exact⟨s,j,S1,by simp only[Ev.dj,k,Ev.ak,r,Ev.bQ],y,λq g=>⟨(c q g).2,λA=>o A _ (c q g).1⟩,p⟩
def Jv(is:iP P P' es):pJ P P' (.fh es):=λz f=>by
 simp only[dj]at z;replace z:=ah z;obtain⟨x,r,c,z⟩:=z;replace z:=aI z;obtain⟨z,g⟩:=z;subst g;obtain⟨d,h,S1,i,j,k⟩:=is c f;obtain⟨s,l,o⟩:=M9 z j.t;exact⟨(s,[]),h,S1,by simp only[Ev.dj,i,Ev.ak,l,Ev.bQ],o,λq p=>by simp at p,k⟩
def Jw(ie:bG P P' e):pJ P P' (.rev e):=λz f=>by
 simp only[dj]at z;replace z:=ah z;obtain⟨x,A,g,z⟩:=z;replace z:=aI z;obtain⟨z,h⟩:=z;subst h;obtain⟨d,i,S1,j,k,o⟩:=ie g f;simp only[Vw]at z;obtain⟨l,z,rfl⟩:=z;cases x<;>simp only[AG,reduceCtorEq]at z
 cases z;have c:=k.t;simp only[bC,Rep]at c;obtain⟨ds,p,r⟩:=c;subst p;exact⟨(ds.reverse,[]),i,S1,by simp only[Ev.dj,j,Ev.ak,Ev.D3,Option.map,Ev.bQ],r.reverse,λq y=>by simp at y,o⟩
end
section
variable{P:aQ}{P':Ev.aQ}(HP:pH P P')
include HP
mutual
theorem bK:∀e:E,bG P P' e
 |.c _=>Nk
 |.v _=>Nl
 |.tup d=>CC (dU d)
 |.lst d=>CD (dU d)
 |.bin _ a b=>CF (bK a) (bK b)
 |.cmp _ a b=>CG (bK a) (bK b)
 |.nt a=>Q2 (bK a)
 |.neg a=>CH (bK a)
 |.an a b=>Q3 (bK a) (bK b)
 |.orr a b=>Nn (bK a) (bK b)
 |.fS t a b=>CJ (gS t) (bK a) (bK b)
 |.ix a b=>GD (bK a) (bK b)
 |.sl a i j=>GF (bK a) (rB i) (rB j)
 |.cl _ d=>GG HP (oR d)
 |.bi _ d=>GH (dU d)
 |.me _ o d=>GI (bK o) (dU d)
 |.comp g _ h f=>wF (mS h) (CO f) (bK g)
 |.gP h=>CN (mS h)
 |.iY a=>CK (bK a)
 |.fld _ _ _=>CL
 |.fu _ _ _ _ d=>GK (dU d)
 |.fm _ _ _ _ d=>GN (dU d)
 |.mv _ _ _ _=>GO
 |.bJ _ _ d=>CM HP (oR d)
theorem gS:∀e:E,gX P P' e
 |.an a b=>UY (gS a) (gS b)
 |.orr a b=>Q5 (gS a) (gS b)
 |.nt a=>UZ (gS a)
 |.c x=>dQ Nk (λ_=>by simp only[aM]) (λ_ _=>by simp only[Ev.aM])
 |.v x=>dQ Nl (λ_=>by simp only[aM]) (λ_ _=>by simp only[Ev.aM])
 |.tup d=>dQ (CC (dU d)) (λ_=>by simp only[aM]) (λ_ _=>by simp only[Ev.aM])
 |.lst d=>dQ (CD (dU d)) (λ_=>by simp only[aM]) (λ_ _=>by simp only[Ev.aM])
 |.bin _ a b=>dQ (CF (bK a) (bK b)) (λ_=>by simp only[aM]) (λ_ _=>by simp only[Ev.aM])
 |.cmp _ a b=>dQ (CG (bK a) (bK b)) (λ_=>by simp only[aM]) (λ_ _=>by simp only[Ev.aM])
 |.neg a=>dQ (CH (bK a)) (λ_=>by simp only[aM]) (λ_ _=>by simp only[Ev.aM])
 |.fS t a b=>dQ (CJ (gS t) (bK a) (bK b)) (λ_=>by simp only[aM]) (λ_ _=>by simp only[Ev.aM])
 |.ix a b=>dQ (GD (bK a) (bK b)) (λ_=>by simp only[aM]) (λ_ _=>by simp only[Ev.aM])
 |.sl a i j=>dQ (GF (bK a) (rB i) (rB j)) (λ_=>by simp only[aM]) (λ_ _=>by simp only[Ev.aM])
 |.cl _ d=>dQ (GG HP (oR d)) (λ_=>by simp only[aM]) (λ_ _=>by simp only[Ev.aM])
 |.bi _ d=>dQ (GH (dU d)) (λ_=>by simp only[aM]) (λ_ _=>by simp only[Ev.aM])
 |.me _ o d=>dQ (GI (bK o) (dU d)) (λ_=>by simp only[aM]) (λ_ _=>by simp only[Ev.aM])
 |.comp g _ h f=>dQ (wF (mS h) (CO f) (bK g)) (λ_=>by simp only[aM]) (λ_ _=>by simp only[Ev.aM])
 |.gP h=>dQ (CN (mS h)) (λ_=>by simp only[aM]) (λ_ _=>by simp only[Ev.aM])
 |.iY a=>dQ (CK (bK a)) (λ_=>by simp only[aM]) (λ_ _=>by simp only[Ev.aM])
 |.fld _ _ _=>dQ CL (λ_=>by simp only[aM]) (λ_ _=>by simp only[Ev.aM])
 |.fu _ _ _ _ d=>dQ (GK (dU d)) (λ_=>by simp only[aM]) (λ_ _=>by simp only[Ev.aM])
 |.fm _ _ _ _ d=>dQ (GN (dU d)) (λ_=>by simp only[aM]) (λ_ _=>by simp only[Ev.aM])
 |.mv _ _ _ _=>dQ GO (λ_=>by simp only[aM]) (λ_ _=>by simp only[Ev.aM])
 |.bJ _ _ d=>dQ (CM HP (oR d)) (λ_=>by simp only[aM]) (λ_ _=>by simp only[Ev.aM])
theorem dU:∀e:Es,iP P P' e
 |.nil=>Nu
 |.cons e a=>Js (bK e) (dU a)
theorem oR:∀e:Es,pI P P' e
 |.nil=>Jt
 |.cons e a=>EC (bK e) (oR a)
theorem rB:∀e:Eo,rq P P' e
 |.no=>Q4
 |.yes e=>Nv (bK e)
theorem CO:∀e:Eo,uY P P' e
 |.no=>Nx
 |.yes e=>Ju (gS e)
theorem mS:∀e:It,pJ P P' e
 |.seq e=>Nz (bK e)
 |.fh b=>Jv (dU b)
 |.rev a=>Jw (bK a)
end
end
structure Tr(M B:Nat->Prop)(h:Hh)(S:Nat->Prop)(M':Nat->Prop)(h':Hh)(S':Nat->Prop):Prop where
 len:h.length<=h'.length
 keep:∀m,m<h.length->¬ M m->h'[m]?=h[m]?
 sub:∀m,S m->S' m
 new:∀m,S' m->S m\/(h.length<=m/\m<h'.length)\/(M m/\¬ B m)
 AI:∀m,M' m->M m\/h.length<=m
 cls:∀m:Nat,m<h.length->kO h'[m]?=kO h[m]?
structure ez(M B:Nat->Prop)(h:Hh)(S:Nat->Prop)(fr:Fr)(aj:Ev.Fr)(M':Nat->Prop)(h':Hh)(S':Nat->Prop)(af:Fr)(bV:Ev.Fr):Prop where
 f:br M' B h' S' af bV
 tr:Tr M B h S M' h' S'
 lk:∀i,locked af i=locked fr i
 rf:∀i,locked fr i=true->bV[i]?=aj[i]?
def iz(h:Hh)(S:Nat->Prop):Fl->Ev.Fl->Prop
 |.nx,g=>g=.nx
 |.bk,g=>g=.bk
 |.ct,g=>g=.ct
 |.ret v,g=>∃d,g=.ret d/\Rep h S v d
section
variable{M B M' M1 M2:Nat->Prop}{h h1 h2:Hh}{S S' S1 S2:Nat->Prop}{fr af ao:Fr}{aj bV nA:Ev.Fr}{c:List Nat}{v:V}{d:D}
def ez.refl(f:br M B h S fr aj):ez M B h S fr aj M h S fr aj:=⟨f,⟨ZO _,λ_ _ _=>rfl,λ_ q=>q,λ_ q=>.inl q,λ_ q=>.inl q
 ,λ_ _=>rfl
 ⟩,λ_=>rfl,λ_ _=>rfl⟩
def Out.s(o:Out M B c h S fr aj h1 S1 af):ez M B h S fr aj M h1 S1 af aj:=⟨o.f,⟨o.tr.len,λm a b=>o.tr.keep m a (λz=>b z.1),o.tr.sub,λm q=>(o.tr.new m q).imp id .inl,λ_ q=>.inl q
 ,o.tr.cls
 ⟩,o.lk,λ_ _=>rfl⟩
theorem ez.trans(f0:br M B h S fr aj)(a:ez M B h S fr aj M1 h1 S1 af bV)(b:ez M1 B h1 S1 af bV M2 h2 S2 ao nA):ez M B h S fr aj M2 h2 S2 ao nA where
 f:=b.f
 tr:=⟨Z2 a.tr.len b.tr.len,λm e g=>by
   rw[b.tr.keep m (ZN e a.tr.len) (λz=>by
    rcases a.tr.AI m z with z|z
    .exact g z
    .omega),a.tr.keep m e g],λm q=>b.tr.sub m (a.tr.sub m q),λm q=>by
   rcases b.tr.new m q with q|q|q
   .rcases a.tr.new m q with q|q|q
    .exact .inl q
    .exact .inr (.inl ⟨q.1,ZN q.2 b.tr.len⟩)
    .exact .inr (.inr q)
   .exact .inr (.inl ⟨Z2 a.tr.len q.1,q.2⟩)
   .rcases a.tr.AI m q.1 with z|z
    .exact .inr (.inr ⟨z,q.2⟩)
    .exact .inr (.inl ⟨z,ZN (a.f.wM m q.1) b.tr.len⟩),λm q=>by
   rcases b.tr.AI m q with q|q
   .exact a.tr.AI m q
   .exact .inr (Z2 a.tr.len q)
  ,λm q=>(b.tr.cls m (ZN q a.tr.len)).trans (a.tr.cls m q)
  ⟩
 lk:=λi=>(b.lk i).trans (a.lk i)
 rf:=λi q=>(b.rf i (by rw[a.lk i];exact q)).trans (a.rf i q)
def br.kind(f:br M B h S fr aj)(g:Option Sl->Option Sl->Prop)(hl:af.length=fr.length)(hg:∀(i:Nat) o,af[i]?=some o->∃o0,fr[i]?=some o0/\(o=o0\/(∃l,o0=some (.own l)/\o=some (.val (.lst l)))\/(∃l,o0=some (.bor l)/\o=some (.ro l)))) :
  ∃M' S',ez M B h S fr aj M' h S' af aj:=by
 let X:Nat->Prop:=λm=>∃(i:Nat) (l:List V),fr[i]?=some (some (Sl.own l))/\af[i]?=some (some (Sl.val (V.lst l)))/\aj[i]?=some (some (D.ref m))
 let Y:Nat->Prop:=λm=>∃(i:Nat) (l:List V),fr[i]?=some (some (Sl.bor l))/\af[i]?=some (some (Sl.ro l))/\aj[i]?=some (some (D.ref m))
 have J:∀m,X m->M m/\¬ B m:=λm ⟨i,l,a,_,b⟩=>by
  obtain⟨N,ds,e,q,_⟩:=f.sl i _ _ a b;cases e;exact q
 have yM:∀m,Y m->M m/\B m:=λm ⟨i,l,a,_,b⟩=>by
  obtain⟨N,ds,e,q,_⟩:=f.sl i _ _ a b;cases e;exact q
 have mono:∀{l:List V} {ds:List D},aq h S l ds->aq h (λm=>S m\/X m) l ds:=λq=>q.mono (λ_ _=>rfl) λ_ z=>.inl z;refine⟨λm=>M m/\¬ X m/\¬ Y m,λm=>S m\/X m,⟨⟨λm q=>?_,λm q=>f.wM m q.1,f.wB,by rw[hl,f.len],λi o p G H=>?_,λi j o P m Q W Z y4 y5 y6=>?_⟩,⟨ZO _,λ_ _ _=>rfl,λ_ q=>.inl q,λm q=>?_,λm q=>.inl q.1
  ,λ_ _=>rfl
  ⟩,λi=>?_,λ_ _=>rfl⟩⟩
 .rcases q with q|q
  .exact⟨(f.wS m q).1,λz=>(f.wS m q).2.1 z.1,(f.wS m q).2.2⟩
  .exact⟨f.wM m (J m q).1,λz=>z.2.1 q,(J m q).2⟩
 .obtain⟨o0,A,k⟩:=hg i o G;have x:=f.sl i o0 p A H;rcases k with rfl|⟨l,rfl,rfl⟩|⟨l,rfl,rfl⟩
  .rcases o with _|s
   .exact x
   .cases s with
    |val v=>obtain⟨d,e,q⟩:=x;exact⟨d,e,q.mono (λ_ _=>rfl) λ_ z=>.inl z⟩
    |own l=>
     obtain⟨m,ds,rfl,z,y,q⟩:=x;refine⟨m,ds,rfl,⟨⟨z.1,λ⟨j,I,C,r,F⟩=>?_,λ⟨j,I,C,r,F⟩=>?_⟩,z.2⟩,y,mono q⟩
     .have:=f.inj i j _ _ m A C rfl rfl H F;subst this;rw[G]at r;cases r
     .have:=f.inj i j _ _ m A C rfl rfl H F;subst this;rw[G]at r;cases r
    |bor l=>
     obtain⟨m,ds,rfl,z,y,q⟩:=x;refine⟨m,ds,rfl,⟨⟨z.1,λ⟨j,I,C,r,F⟩=>?_,λ⟨j,I,C,r,F⟩=>?_⟩,z.2⟩,y,mono q⟩
     .have:=f.inj i j _ _ m A C rfl rfl H F;subst this;rw[G]at r;cases r
     .have:=f.inj i j _ _ m A C rfl rfl H F;subst this;rw[G]at r;cases r
    |ro l=>obtain⟨m,ds,rfl,z,y,q⟩:=x;exact⟨m,ds,rfl,λw=>z w.1,y,mono q⟩
    |oo c l=>
     obtain⟨m,ds,rfl,z,y,q⟩:=x;refine⟨m,ds,rfl,⟨⟨z.1,λ⟨j,I,C,r,F⟩=>?_,λ⟨j,I,C,r,F⟩=>?_⟩,z.2⟩,y,mono q⟩
     .have:=f.inj i j _ _ m A C rfl rfl H F;subst this;rw[G]at r;cases r
     .have:=f.inj i j _ _ m A C rfl rfl H F;subst this;rw[G]at r;cases r
    |ob c l=>
     obtain⟨m,ds,rfl,z,y,q⟩:=x;refine⟨m,ds,rfl,⟨⟨z.1,λ⟨j,I,C,r,F⟩=>?_,λ⟨j,I,C,r,F⟩=>?_⟩,z.2⟩,y,mono q⟩
     .have:=f.inj i j _ _ m A C rfl rfl H F;subst this;rw[G]at r;cases r
     .have:=f.inj i j _ _ m A C rfl rfl H F;subst this;rw[G]at r;cases r
    |oq c l=>obtain⟨m,ds,rfl,z,y,q⟩:=x;exact⟨m,ds,rfl,λw=>z w.1,y,mono q⟩
  .obtain⟨m,ds,rfl,z,y,q⟩:=x;exact⟨.ref m,rfl,m,ds,rfl,.inr ⟨i,l,A,G,H⟩,y,mono q⟩
  .obtain⟨m,ds,rfl,z,y,q⟩:=x;exact⟨m,ds,rfl,λw=>w.2.2 ⟨i,l,A,G,H⟩,y,mono q⟩
 .have L:∀(i:Nat) o,af[i]?=some o->gG o=true->∃o0,fr[i]?=some o0/\gG o0=true:=λi o w1 K=>by
   obtain⟨o0,A,k⟩:=hg i o w1;rcases k with rfl|⟨l,rfl,rfl⟩|⟨l,rfl,rfl⟩
   .exact⟨o,A,K⟩
   .cases K
   .cases K
  obtain⟨oi,k1,k2⟩:=L i o Q Z;obtain⟨oj,k3,k4⟩:=L j P W y4;exact f.inj i j oi oj m k1 k3 k2 k4 y5 y6
 .rcases q with q|q
  .exact .inl q
  .exact .inr (.inr (J m q))
 .unfold locked;cases z:af[i]? with
  |none=>
   have:fr[i]?=none:=by rw[abR]at z ⊢;omega
   rw[this]
  |some o=>
   obtain⟨o0,A,k⟩:=hg i o z;rw[A];rcases k with rfl|⟨l,rfl,rfl⟩|⟨l,rfl,rfl⟩<;>rfl
def br.eZ(f:br M B h S fr aj):∃M' S',ez M B h S fr aj M' h S' (gh fr) aj:=by
 refine f.kind (λ_ _=>True) (by simp[gh]) λi o e=>?_;unfold gh at e;rw[Z7]at e;cases z:fr[i]? with
 |none=>rw[z]at e;cases e
 |some a=>
  rw[z]at e;cases e;refine⟨a,rfl,?_⟩;rcases a with _|s
  .exact .inl rfl
  .cases s with
   |own l=>exact .inr (.inl ⟨l,rfl,rfl⟩)
   |_=>exact .inl rfl
def br.pre(e:E)(f:br M B h S fr aj):∃M' S',ez M B h S fr aj M' h S' (sZ e fr) aj:=by
 cases e with
 |v j=>
  refine f.kind (λ_ _=>True) (by simp[sZ]) λi o e=>?_;simp only[sZ]at e;rw[acw]at e;cases z:fr[i]? with
  |none=>rw[z]at e;simp at e
  |some a=>
   rw[z]at e;replace e:(if j=i then Option.map Sl.eZ a else a)=o:=Vb e;by_cases b:j=i
   .rw[xC b]at e;subst e;refine⟨a,rfl,?_⟩;rcases a with _|s
    .exact .inl rfl
    .cases s with
     |own l=>exact .inr (.inl ⟨l,rfl,rfl⟩)
     |_=>exact .inl rfl
   .rw[ZS b]at e;subst e;exact⟨a,rfl,.inl rfl⟩
 |_=>exact⟨_,_,.refl f⟩
theorem br.walk:∀(is:List Nat) {M:Nat->Prop}{S:Nat->Prop}{fr:Fr},br M B h S fr aj->∃M' S',ez M B h S fr aj M' h S' (uW is fr) aj
 |[],_,_,_,f=>⟨_,_,.refl f⟩
 |i :: is,M,S,fr,f=>by
  have one:∃M1 S1,ez M B h S fr aj M1 h S1 (match fr[i]? with|some (some s)=>fr.set i (some s.walk)|_=>fr) aj:=by
   split
   .rename_i s z;have g:=(List.getElem?_eq_some_iff.mp z).1;refine f.kind (λ_ _=>True) (by simp) λj o e=>?_;by_cases a:i=j
    .subst a;rw[ZP g]at e;cases e;refine⟨_,z,?_⟩;cases s with
     |own l=>exact .inr (.inl ⟨l,rfl,rfl⟩)
     |bor l=>exact .inr (.inr ⟨l,rfl,rfl⟩)
     |_=>exact .inl rfl
    .rw[Kc a]at e;exact⟨o,e,.inl rfl⟩
   .exact⟨M,S,.refl f⟩
  obtain⟨M1,S1,b⟩:=one;obtain⟨M2,S2,k⟩:=br.walk is b.f;exact⟨M2,S2,b.trans f k⟩
def Sn:Sl->List V->Prop
 |.own l,l'=>l=l'
 |.oo _ l,l'=>l=l'
 |_,_=>False
def br.ED(f:br M B h S fr aj){i:Nat}{s:Sl}{l:List V}{ds:List D}{rest:List O}(hs:Sn s l)(e:put fr i s=some af)(q:aq h S l ds):ez M B h S fr aj (λm=>M m\/m=h.length) (h++oO s ds :: rest) S af (aj.set i (some (.ref h.length))):=by
 have Z:af=fr.set i (some s)/\locked fr i=false:=by
  unfold put at e;unfold locked;split at e
  .cases e
  .cases e
  .cases e
  .cases e
  .rename_i k1 k2
    k3 k4
   cases e;refine⟨rfl,?_⟩;cases z:fr[i]? with
   |none=>rfl
   |some o=>
    rcases o with _|s
    .rfl
    .cases s with
     |bor l=>exact absurd z (k1 l)
     |ro l=>exact absurd z (k2 l)
     |ob c l=>exact absurd z (k3 c l)
     |oq c l=>exact absurd z (k4 c l)
     |_=>rfl
 obtain⟨rfl,Q⟩:=Z;have G:∀m,m<h.length->(h++oO s ds :: rest)[m]?=h[m]?:=λm z=>by rw[gV z]
 have H:∀m,S m->(h++oO s ds :: rest)[m]?=h[m]?:=λm z=>G m (f.w m z);refine⟨⟨λm y=>⟨by have:=(f.wS m y).1;simp;omega,λz=>?_,(f.wS m y).2.2⟩,λm y=>?_,λm y=>by have:=f.wB m y;simp;omega,by simp[f.len],λj o p A F=>?_,λj k o W m A F X Y J K=>?_⟩,⟨by simp,λm y _=>G m y,λ_ z=>z,λ_ z=>.inl z,λm z=>z.imp id (λz=>by omega)
   ,λm y=>by rw[G m y]
   ⟩,λj=>?_,λj r=>?_⟩
 .rcases z with z|z
  .exact(f.wS m y).2.1 z
  .have:=(f.wS m y).1;omega
 .rcases y with y|y
  .have:=f.wM m y;simp;omega
  .subst y;simp
 .by_cases r:i=j
  .subst r;have I:i<fr.length:=by have:=(List.getElem?_eq_some_iff.mp A).1;simpa using this
   rw[ZP I]at A;rw[ZP (by rw[<-f.len];exact I)]at F;cases A;cases F;cases s<;>first
    |exact hs.elim
    | (simp only[Sn]at hs;subst hs;exact⟨h.length,ds,rfl,⟨.inr rfl,λz=>by have:=f.wB _ z;omega⟩,by simp[oO],q.mono H λ_ z=>z⟩)
  .rw[Kc r]at A F;have g:=f.sl j o p A F;rcases o with _|s
   .exact g
   .cases s with
    |val v=>obtain⟨d,e,q⟩:=g;exact⟨d,e,q.mono H λ_ z=>z⟩
    |own l=>obtain⟨m,C,rfl,z,y,q⟩:=g;exact⟨m,C,rfl,⟨.inl z.1,z.2⟩,by rw[G m (f.wM m z.1)];exact y,q.mono H λ_ z=>z⟩
    |bor l=>obtain⟨m,C,rfl,z,y,q⟩:=g;exact⟨m,C,rfl,⟨.inl z.1,z.2⟩,by rw[G m (f.wM m z.1)];exact y,q.mono H λ_ z=>z⟩
    |ro l=>
     obtain⟨m,C,rfl,z,y,q⟩:=g;have P:=(List.getElem?_eq_some_iff.mp y).1;exact⟨m,C,rfl,λw=>by rcases w with w|w;exact z w;omega,by rw[G m P];exact y,q.mono H λ_ z=>z⟩
    |oo c l=>obtain⟨m,C,rfl,z,y,q⟩:=g;exact⟨m,C,rfl,⟨.inl z.1,z.2⟩,by rw[G m (f.wM m z.1)];exact y,q.mono H λ_ z=>z⟩
    |ob c l=>obtain⟨m,C,rfl,z,y,q⟩:=g;exact⟨m,C,rfl,⟨.inl z.1,z.2⟩,by rw[G m (f.wM m z.1)];exact y,q.mono H λ_ z=>z⟩
    |oq c l=>
     obtain⟨m,C,rfl,z,y,q⟩:=g;have P:=(List.getElem?_eq_some_iff.mp y).1;exact⟨m,C,rfl,λw=>by rcases w with w|w;exact z w;omega,by rw[G m P];exact y,q.mono H λ_ z=>z⟩
 .have L:∀(j:Nat) o,i≠j->fr[j]?=some o->gG o=true->aj[j]?=some (some (.ref m))->m<h.length:=λj o _ w1 w2 w3=>f.wM m (f.mM w1 w2 w3);have N:∀(j:Nat),j<fr.length->i=j->(aj.set i (some (.ref h.length)))[j]?=some (some (.ref m))->m=h.length:=λj I r w=>by
   subst r;rw[ZP (by rw[<-f.len];exact I)]at w;cases w;rfl
  have lj:j<fr.length:=by have:=(List.getElem?_eq_some_iff.mp A).1;simpa using this
  have lk:k<fr.length:=by have:=(List.getElem?_eq_some_iff.mp F).1;simpa using this
  by_cases r:i=j
  .by_cases x:i=k
   .rw[<-r,<-x]
   .have a:=N j lj r J;rw[Kc x]at F K;have b:=L k W x F Y K;omega
  .by_cases x:i=k
   .have a:=N k lk x K;rw[Kc r]at A J;have b:=L j o r A X J;omega
   .rw[Kc r]at A J;rw[Kc x]at F K;exact f.inj j k o W m A F X Y J K
 .by_cases r:i=j
  .subst r;rw[Q];unfold locked;by_cases I:i<fr.length
   .rw[ZP I];cases s<;>first|rfl|exact hs.elim
   .rw[aac (by simpa using I)]
  .unfold locked;rw[Kc r]
 .have:i≠j:=λz=>by subst z;rw[Q]at r;cases r
  rw[Kc this]
theorem br.own(f:br M B h S fr aj){i:Nat}{l:List V}{ds:List D}(e:put fr i (.own l)=some af)(q:aq h S l ds):ez M B h S fr aj (λm=>M m\/m=h.length) (h++[.lst ds]) S af (aj.set i (some (.ref h.length))):=f.ED (s:=.own l) (rest:=[]) rfl e q
end
inductive NB(P':Ev.aQ)(w:Nat)(s:S)(g:Fl)(M B:Nat->Prop)(h:Hh)(S:Nat->Prop)(fr:Fr)(aj:Ev.Fr)(af:Fr):Prop
 |mk (g':Ev.Fl) (bV:Ev.Fr) (M':Nat->Prop) (h':Hh) (S':Nat->Prop) (c0:Ev.ex P' w s aj h=.ok (g',bV) h') (c1:iz h' S' g g') (c2:ez M B h S fr aj M' h' S' af bV):NB P' w s g M B h S fr aj af
inductive NC(P':Ev.aQ)(w:Nat)(s:Ss)(g:Fl)(M B:Nat->Prop)(h:Hh)(S:Nat->Prop)(fr:Fr)(aj:Ev.Fr)(af:Fr):Prop
 |mk (g':Ev.Fl) (bV:Ev.Fr) (M':Nat->Prop) (h':Hh) (S':Nat->Prop) (c0:Ev.exs P' w s aj h=.ok (g',bV) h') (c1:iz h' S' g g') (c2:ez M B h S fr aj M' h' S' af bV):NC P' w s g M B h S fr aj af
section
variable(P:aQ)(P':Ev.aQ)(w:Nat)
def lZ(s:S):Prop:=∀{fr:Fr} {g:Fl} {af:Fr} {M B:Nat->Prop} {h:Hh} {S:Nat->Prop} {aj:Ev.Fr},ex P w s fr=.ok g af->br M B h S fr aj->NB P' w s g M B h S fr aj af
def rC(s:Ss):Prop:=∀{fr:Fr} {g:Fl} {af:Fr} {M B:Nat->Prop} {h:Hh} {S:Nat->Prop} {aj:Ev.Fr},exs P w s fr=.ok g af->br M B h S fr aj->NC P' w s g M B h S fr aj af
end
section
variable{P:aQ}{P':Ev.aQ}{w:Nat}(HP:pH P P')
include HP
def EE{i:Nat}{e:E}{fr:Fr}{g:Fl}{af:Fr}{M B:Nat->Prop}{h:Hh}{S:Nat->Prop}{aj:Ev.Fr}(z:((ev P false e fr).bind λx af=>if isNew e then (match x with
   |.lst l=>(R.of (put af i (.own l)) af).bind λao _=>.ok .nx ao
   |_=>.bad)
  else (R.of (put af i (.val x)) af).bind λao _=>.ok .nx ao)=.ok g af) (f:br M B h S fr aj):NB P' w (.set i e) g M B h S fr aj af:=by
 replace z:=ah z;obtain⟨x,ao,a,z⟩:=z;by_cases q:isNew e=true
 .rw[xC q]at z;have r:∃l ds c S1,x=.lst l/\aq c S1 l ds/\Ev.ev P' e aj h=.ok (.ref c.length) (c++[.lst ds])/\Out M B (aP e) h S fr aj c S1 ao:=by
   cases e <;> (try simp only[isNew,Z9]at q)
   case lst es=>
    simp only[ev]at a;replace a:=ah a;obtain⟨l,y,b,a⟩:=a;replace a:=aI a;obtain⟨a,o⟩:=a;subst o;unfold fq at a;split at a
    case isFalse=>cases a
    rename_i A;cases a;obtain⟨ds,c,S1,p,j,k⟩:=dU HP es b f;refine⟨l,ds,c,S1,rfl,j.n,?_,k⟩;simp only[Ev.ev,p,Ev.ak,Ev.alloc];rw[xC (by rw[<-j.n.length];exact A)]
   case gP it=>
    simp only[ev]at a;replace a:=ah a;obtain⟨l,y,b,a⟩:=a;replace a:=aI a;obtain⟨a,o⟩:=a;subst o;unfold fq at a;split at a
    case isFalse=>cases a
    rename_i A;cases a;obtain⟨s,c,S1,p,j,I,k⟩:=mS HP it b f;refine⟨l,s.1,c,S1,rfl,j,?_,k⟩;simp only[Ev.ev,p,Ev.ak,Ev.alloc];rw[xC (by rw[<-j.length];exact A)]
  obtain⟨l,ds,c,S1,rfl,j,p,k⟩:=r;simp only at z;replace z:=ah z;obtain⟨y,C,b,z⟩:=z;replace b:=aI b;obtain⟨b,o⟩:=b;subst o;cases z;have F:=k.f.own b j;exact⟨.nx,_,_,_,_,by simp only[Ev.fj,p,Ev.ak],rfl,k.s.trans f F⟩
 .rw[ZS q]at z;replace z:=ah z;obtain⟨y,C,b,z⟩:=z;replace b:=aI b;obtain⟨b,o⟩:=b;subst o;cases z;obtain⟨d,c,S1,p,j,k⟩:=bK HP e a f;obtain⟨f2,G,H⟩:=k.f.set b j.n;refine⟨.nx,_,_,_,_,by simp only[Ev.fj,p,Ev.ak],rfl,k.s.trans f ⟨f2,(ez.refl f2).tr,G,H⟩⟩
def Jx{i:Nat}{e:E}:lZ P P' w (.set i e):=λ{fr g af M B h S aj} z f=>by
 simp only[ex]at z;obtain⟨M0,S0,a⟩:=f.pre e;obtain⟨b,c,d,j,k,l,p,o⟩:=EE HP z a.f;exact⟨b,c,d,j,k,l,p,a.trans f o⟩
def ND{c:Ev.Cl}{i k:Nat}{e:E}:lZ P P' w (.fst c i k e):=λ{fr g af M B h S aj} z f=>by
 simp only[ex]at z;replace z:=ah z;obtain⟨x,I,j,z⟩:=z;obtain⟨d,J,S1,o,p,b⟩:=bK HP e j f;split at z
 .rename_i s l r;split at z
  case isFalse=>cases z
  rename_i y;cases z;obtain⟨A,C,F,n,K,G,a,q⟩:=rz r b.f;obtain⟨L,H⟩:=ny (l':=l.set k x) b A C F G (q.set k p.n);exact⟨.nx,aj,M,_,S1,by simp only[Ev.fj,o,Ev.ak,a];rw[xC (by rw[<-q.length];exact y)],rfl,H.s⟩
 .cases z
omit HP in
theorem Al.push{h:Hh}{S:Nat->Prop}(l:List O)(w:∀m,S m->m<h.length):Al h S (h++l) S:=⟨by simp,λm q=>by rw[gV q],λ_ q=>q,λ_ q=>.inl q⟩
omit HP in
theorem NF{c:Ev.Cl}{i k:Nat}:lZ P P' w (.pZ c i k):=λ{fr g af M B h S aj} z f=>by
 simp only[ex]at z;split at z
 .rename_i s l d;split at z
  case isFalse=>cases z
  rename_i e;cases z;obtain⟨j,o,p,n,x,r,a,q⟩:=rz d f;obtain⟨y,b⟩:=ny (l':=l.set k (.tup [])) (Out.refl (c:=[]) f) j o p r (q.set k (show Rep h S (.tup []) (.tup [])from ⟨[],rfl,.nil⟩));exact⟨.nx,aj,M,_,S,by simp only[Ev.fj,a];rw[xC (by rw[<-q.length];exact e)],rfl,(b.al (Al.push _ b.f.w)).s⟩
 .cases z
omit HP in
theorem rD{as:List V}{ds:List D}{h:Hh}{S:Nat->Prop}(q:aq h S as ds):∀{tp:List Ev.TP}{l:List V},yV as tp=some l->∃es,Ev.lG ds tp=some es/\aq h S l es
 |[],l,e=>by cases e;exact⟨[],rfl,.nil⟩
 |.a j :: r,l,e=>by
  obtain⟨v,b,e⟩:=Option.bind_eq_some_iff.mp e;obtain⟨p,f,rfl⟩:=Option.map_eq_some_iff.mp e;obtain⟨es,g,i⟩:=rD q f;obtain⟨d,k,o⟩:=q.get b;exact⟨d :: es,by simp only[Ev.lG,k,Option.bind,g,Option.map],.cons o i⟩
 |.t j :: r,l,e=>by
  obtain⟨v,b,e⟩:=Option.bind_eq_some_iff.mp e;obtain⟨p,f,rfl⟩:=Option.map_eq_some_iff.mp e;obtain⟨es,g,i⟩:=rD q f;obtain⟨d,k,o⟩:=q.get b;exact⟨.tup [d] :: es,by simp only[Ev.lG,k,Option.bind,g,Option.map],.cons ⟨_,rfl,.cons o .nil⟩ i⟩
 |.c x :: r,l,e=>by
  obtain⟨v,b,e⟩:=Option.bind_eq_some_iff.mp e;obtain⟨p,f,rfl⟩:=Option.map_eq_some_iff.mp e;obtain⟨es,g,i⟩:=rD q f;exact⟨x :: es,by simp only[Ev.lG,g,Option.map],.cons (mQ b) i⟩
def NG{c:Ev.Cl}{i fd:Nat}{tp:List Ev.TP}{es:Es}:lZ P P' w (.new c i fd tp es):=λ{fr g af M B h S aj} z f=>by
 simp only[ex]at z;replace z:=ah z;obtain⟨I,dz,p,z⟩:=z;replace z:=ah z;obtain⟨J,K,q,z⟩:=z;replace z:=ah z;obtain⟨l,L,a,z⟩:=z;replace a:=aI a;obtain⟨a,d⟩:=a;subst d;split at z
 case isFalse=>cases z
 rename_i r;replace z:=ah z;obtain⟨N,Q,b,z⟩:=z;replace b:=aI b;obtain⟨b,d⟩:=b;subst d;cases z;obtain⟨ds,W,S0,x,y,e⟩:=dU HP es p f;obtain⟨X,A,S1,C,Y,j⟩:=nq HP q e.f (ds:=[]) rfl;have k:=e.trans j;obtain⟨F,G,o⟩:=rD (y.n.tr e.f j.tr) a;have H:=k.f.ED (s:=.oo c l) (rest:=Ev.eN A.length c.nv (F.length - c.nv)) rfl b o;exact⟨.nx,_,_,_,_,by simp only[Ev.fj,x,Ev.ak,C,G,Ev.bQ];rw[xC (by rw[<-o.length];exact r)];rfl,rfl,k.s.trans f H⟩
def Q6{c:Ev.Cl}{j ff fd k:Nat}:lZ P P' w (.tw c j ff fd k):=λ{fr g af M B h S aj} z f=>by
 simp only[ex]at z;split at z
 case h_2=>cases z
 rename_i l i;replace z:=ah z;obtain⟨C,F,o,z⟩:=z;split at z
 case isFalse=>cases z
 rename_i p;replace z:=ah z;obtain⟨G,H,b,z⟩:=z;replace b:=aI b;obtain⟨b,r⟩:=b;subst r;cases z;obtain⟨n,ds,a,q⟩:=mR i f;obtain⟨I,x,S1,y,J,d⟩:=nq HP o f (ds:=[]) rfl;have e:=q.tr f d.tr;have A:=d.f.ED (s:=.oo c l) (rest:=Ev.eN x.length c.nv (ds.length - c.nv)) rfl b e;exact⟨.nx,_,_,_,_,by simp only[Ev.fj,Ev.qU,a,y,Ev.ak];rw[xC (by rw[<-e.length];exact p)];rfl,rfl,d.s.trans f A⟩
def NH{e:E}:lZ P P' w (.exp e):=λ{fr g af M B h S aj} z f=>by
 simp only[ex]at z;replace z:=ah z;obtain⟨x,i,a,z⟩:=z;cases z;obtain⟨d,j,S1,b,k,c⟩:=bK HP e a f;exact⟨.nx,_,_,_,_,by simp only[Ev.fj,b,Ev.ak],rfl,c.s⟩
def NI{e:E}:lZ P P' w (.ret e):=λ{fr g af M B h S aj} z f=>by
 simp only[ex]at z;replace z:=ah z;obtain⟨x,k,b,z⟩:=z;cases z;obtain⟨M1,S1,a⟩:=f.eZ;obtain⟨d,l,S2,c,i,j⟩:=bK HP e b a.f;exact⟨.ret d,_,_,_,_,by simp only[Ev.fj,c,Ev.ak],⟨d,rfl,i.n⟩,a.trans f j.s⟩
omit HP in
theorem tB{F:V->Fr->R Fl}{F':D->Ev.Fr->Hh->Ev.R (Ev.Fl×Ev.Fr)}{ck:List (Nat×List D)}{B:Nat->Prop}{M0:Nat->Prop}{h0:Hh}{S0:Nat->Prop}{dz:Fr}{EF:Ev.Fr}(f0:br M0 B h0 S0 dz EF)(st:∀q∈ck,bB h0 q.1=some q.2/\¬ M0 q.1)
  (turn:∀v d fr g af M h S aj,F v fr=.ok g af->br M B h S fr aj->Rep h S v d->∃g' bV M' h' S',F' d aj h=.ok (g',bV) h'/\iz h' S' g g'/\ez M B h S fr aj M' h' S' af bV) :
  ∀{vs:List V} {ds:List D} {fr:Fr} {g:Fl} {af:Fr} {M:Nat->Prop} {h:Hh} {S:Nat->Prop} {aj:Ev.Fr},forL F vs fr=.ok g af->ez M0 B h0 S0 dz EF M h S fr aj->aq h S vs ds->
  ∃g' bV M' h' S',Ev.forL F' ck ds aj h=.ok (g',bV) h'/\iz h' S' g g'/\ez M0 B h0 S0 dz EF M' h' S' af bV
 |[],ds,fr,g,af,M,h,S,aj,e,o,q=>by
  simp only[forL]at e;simp only[aq]at q;subst q;cases e;refine⟨.nx,aj,M,h,S,?_,rfl,o⟩;simp only[Ev.forL];rw[xC (kK λx b=>nu (st x b).1 (o.tr.keep _ (rj (st x b).1) (st x b).2))]
 |v :: vs,ds,fr,g,af,M,h,S,aj,e,o,q=>by
  simp only[forL]at e;replace e:=ah e;obtain⟨p,J,K,e⟩:=e;simp only[aq]at q;obtain⟨d,L,rfl,N,Q⟩:=q;obtain⟨g',H,M2,j,S2,c,a,k⟩:=turn v d fr p J M h S aj K o.f N;have i:=o.trans f0 k;have GP:Ev.stays h ck=true:=kK λx b=>nu (st x b).1 (o.tr.keep _ (rj (st x b).1) (st x b).2);have So:aq j S2 vs L:=Q.mono (λm z=>k.tr.keep m (o.f.wS m z).1 (o.f.wS m z).2.1) k.tr.sub;cases p with
  |nx=>
   simp only[iz]at a;subst a;simp only at e;obtain⟨l,r,M3,y,S3,A,C,G⟩:=tB f0 st turn e i So;refine⟨l,r,M3,y,S3,?_,C,G⟩;simp only[Ev.forL];rw[xC GP,c,Ev.ak];exact A
  |ct=>
   simp only[iz]at a;subst a;simp only at e;obtain⟨l,r,M3,y,S3,A,C,G⟩:=tB f0 st turn e i So;refine⟨l,r,M3,y,S3,?_,C,G⟩;simp only[Ev.forL];rw[xC GP,c,Ev.ak];exact A
  |bk=>
   simp only[iz]at a;subst a;simp only at e;cases e;refine⟨.nx,H,M2,j,S2,?_,rfl,i⟩;simp only[Ev.forL];rw[xC GP,c,Ev.ak]
  |ret x=>
   simp only[iz]at a;obtain⟨I,rfl,a⟩:=a;simp only at e;cases e;refine⟨.ret I,H,M2,j,S2,?_,⟨I,rfl,a⟩,i⟩;simp only[Ev.forL];rw[xC GP,c,Ev.ak]
def NJ{t:T}{it:It}{b:Ss}(ib:rC P P' w b):lZ P P' w (.for t it b):=λ{l g F M B h S o} z f=>by
 simp only[ex]at z;replace z:=ah z;obtain⟨vs,p,G,z⟩:=z;obtain⟨M1,S1,r⟩:=f.walk (itv it);obtain⟨s,x,S2,H,I,A,a⟩:=mS HP it G r.f;have J:=r.trans f a.s;obtain⟨c,e,M',i,S',K,L,N⟩:=tB (F':=λd p x=>match Ev.cI t d p with
   |some j=>Ev.exs P' w b j x
   |none=>.bad) (ck:=s.2) a.f (λq C=>⟨(A q C).1,(A q C).2 rfl⟩) (λv d l g F M h S o y f q=>by
  split at y
  .rename_i j Q;obtain⟨W,X,k,Y,Z⟩:=f.cI Q q;rw[X];obtain⟨c,e,M',i,S',c1,c2,c3⟩:=ib y k;exact⟨c,e,M',i,S',c1,c2,(⟨k,(ez.refl k).tr,Y,Z⟩:ez M _ h S l o M h S j W).trans f c3⟩
  .cases y) z (ez.refl a.f) I
 refine⟨c,e,M',i,S',?_,L,J.trans f N⟩;simp only[Ev.fj,H,Ev.ak];exact K
theorem wG{t:E}{b:Ss}(ib:rC P P' w b):∀(n:Nat) {fr:Fr}{g:Fl}{af:Fr}{M B:Nat->Prop}{h:Hh}{S:Nat->Prop}{aj:Ev.Fr},eg (λao=>aM P t ao) (λao=>exs P w b ao) n fr=.ok g af->br M B h S fr aj->
  ∃g' bV M' h' S',Ev.eg (λao h2=>Ev.aM P' t ao h2) (λao h2=>Ev.exs P' w b ao h2) n aj h=.ok (g',bV) h'/\iz h' S' g g'/\ez M B h S fr aj M' h' S' af bV
 |0,_,_,_,_,_,_,_,_,z,_=>by simp only[eg]at z;cases z
 |n+1,fr,g,af,M,B,h,S,aj,z,f=>by
  simp only[eg]at z;replace z:=ah z;obtain⟨k,ao,F,z⟩:=z;obtain⟨G,S1,c,i⟩:=gS HP t F f;cases k with
  |false=>
   simp only[Z9,aaH]at z;cases z;refine⟨.nx,aj,M,G,S1,?_,rfl,i.s⟩;simp only[Ev.eg,c,Ev.ak];rw[ZS (by decide)]
  |true=>
   simp only[Z4]at z;replace z:=ah z;obtain⟨p,I,H,z⟩:=z;obtain⟨g',A,M2,h2,S2,d,a,j⟩:=ib H i.f;have e:=i.s.trans f j;cases p with
   |nx=>
    simp only[iz]at a;subst a;simp only at z;obtain⟨l,EG,M3,o,S3,q,r,y⟩:=wG ib n z j.f;refine⟨l,EG,M3,o,S3,?_,r,e.trans f y⟩;simp only[Ev.eg,c,Ev.ak,Z4,d];exact q
   |ct=>
    simp only[iz]at a;subst a;simp only at z;obtain⟨l,EG,M3,o,S3,q,r,y⟩:=wG ib n z j.f;refine⟨l,EG,M3,o,S3,?_,r,e.trans f y⟩;simp only[Ev.eg,c,Ev.ak,Z4,d];exact q
   |bk=>
    simp only[iz]at a;subst a;simp only at z;cases z;refine⟨.nx,A,M2,h2,S2,?_,rfl,e⟩;simp only[Ev.eg,c,Ev.ak,Z4,d]
   |ret x=>
    simp only[iz]at a;obtain⟨C,rfl,a⟩:=a;simp only at z;cases z;refine⟨.ret C,A,M2,h2,S2,?_,⟨C,rfl,a⟩,e⟩;simp only[Ev.eg,c,Ev.ak,Z4,d]
def NK{t:E}{a b:Ss}(ia:rC P P' w a)(ib:rC P P' w b):lZ P P' w (.iff t a b):=λ{fr g af M B h S aj} z f=>by
 simp only[ex]at z;replace z:=ah z;obtain⟨k,r,q,z⟩:=z;obtain⟨x,S1,p,c⟩:=gS HP t q f;cases k with
 |true=>
  simp only[Z4]at z;obtain⟨d,e,M',i,S',j,l,o⟩:=ia z c.f;exact⟨d,e,M',i,S',by simp only[Ev.fj,p,Ev.ak,Z4,j],l,c.s.trans f o⟩
 |false=>
  simp only[Z9,aaH]at z;obtain⟨d,e,M',i,S',j,l,o⟩:=ib z c.f;exact⟨d,e,M',i,S',by simp only[Ev.fj,p,Ev.ak];rw[ZS (by decide)];exact j,l,c.s.trans f o⟩
mutual
theorem Q7:∀s:S,lZ P P' w s
 |.set _ _=>Jx HP
 |.exp _=>NH HP
 |.fst _ _ _ _=>ND HP
 |.pZ _ _ _=>NF
 |.new _ _ _ _ _=>NG HP
 |.qT _ _ _ _=>λz _=>by simp only[ex]at z;cases z
 |.tw _ _ _ _ _=>Q6 HP
 |.ret _=>NI HP
 |.iff _ a b=>NK HP (mT a) (mT b)
 |.for _ _ b=>NJ HP (mT b)
 |.pY _ b=>λz f=>by
  simp only[ex]at z;obtain⟨c,d,M',e,S',g,h,i⟩:=wG HP (mT b) w z f;exact⟨c,d,M',e,S',by simp only[Ev.fj];exact g,h,i⟩
 |.fC _=>λz _=>by simp only[ex]at z;cases z
theorem mT:∀s:Ss,rC P P' w s
 |.nil=>λz f=>by simp only[exs]at z;cases z;exact⟨.nx,_,_,_,_,by simp only[Ev.exs],rfl,.refl f⟩
 |.cons s h=>λz f=>by
  simp only[exs]at z;replace z:=ah z;obtain⟨p,y,i,z⟩:=z;obtain⟨A,d,M2,e,S2,c,a,b⟩:=Q7 s i f;cases p with
  |nx=>
   simp only[iz]at a;subst a;simp only at z;obtain⟨j,k,M3,l,S3,o,q,r⟩:=mT h z b.f;exact⟨j,k,M3,l,S3,by simp only[Ev.exs,c,Ev.ak,o],q,b.trans f r⟩
  |ct=>
   simp only[iz]at a;subst a;simp only at z;cases z;exact⟨.ct,d,M2,e,S2,by simp only[Ev.exs,c,Ev.ak],rfl,b⟩
  |bk=>
   simp only[iz]at a;subst a;simp only at z;cases z;exact⟨.bk,d,M2,e,S2,by simp only[Ev.exs,c,Ev.ak],rfl,b⟩
  |ret x=>
   simp only[iz]at a;obtain⟨g,rfl,a⟩:=a;simp only at z;cases z;exact⟨.ret g,d,M2,e,S2,by simp only[Ev.exs,c,Ev.ak],⟨g,rfl,a⟩,b⟩
end
end
def pK{B:Nat->Prop}{h h':Hh}{S:Nat->Prop}{s s':Sl}{m:Nat}{es:List D}(q:lz B B h S (some s) (some (.ref m)))(l1:uB (some s)=true)(l2:uB (some s')=true)(c:∀m:Nat,m<h.length->kO h'[m]?=kO h[m]?)(k1:h'[m]?=some (oO s' es)):h'[m]?=some (oO s es):=by
 have a:∃ds,h[m]?=some (oO s ds):=by
  cases s<;>first | (cases l1;done) | (obtain⟨f,d,e,_,y,_⟩:=q;cases e;exact⟨d,y⟩)
 obtain⟨ds,a⟩:=a;have b:=c m (List.getElem?_eq_some_iff.mp a).1;rw[k1,a]at b;rw[k1];cases s<;>cases s'<;>first|rfl | (cases b;done) | (cases l1;done) | (cases l2;done) | (simp only[oO,kO,abt]at b;subst b;rfl)
theorem tD{h:Hh}{S:Nat->Prop}{B:Nat->Prop}{h0:Hh}{S0:Nat->Prop}:∀{sl:List Sl}{ds:List D}{cs:Fr},sl.length=ds.length->
  (∀(a:Nat) s d,sl[a]?=some s->ds[a]?=some d->lz B B h0 S0 (some s) (some d)/\locked cs a=uB (some s)/\(uB (some s)=true->∃m es l s',d=.ref m/\h[m]?=some (oO s es)/\aq h S l es/\cs[a]?=some (some s')/\s'.out=some l))->oM h S sl ds ((cs.take sl.length).filterMap λo=>o.bind Sl.out)
 |[],ds,cs,_,_=>by simp[oM]
 |s :: sl,[],cs,hl,_=>by simp at hl
 |s :: sl,d :: ds,[],hl,q=>by
  have i:=tD (h:=h) (S:=S) (sl:=sl) (ds:=ds) (cs:=[]) (by simpa using hl) λa s' C F G=>by
   obtain⟨g,j,b⟩:=q (a+1) s' C (by simpa using F) (by simpa using G);exact⟨g,by simpa[locked]using j,λz=>by obtain⟨_,_,_,_,_,_,_,y,_⟩:=b z;simp at y⟩
  obtain⟨g,j,b⟩:=q 0 s d (by simp) (by simp);cases s with
  |val v=>simp at i ⊢;exact⟨d,ds,rfl,i⟩
  |own l=>exact absurd g (by rintro⟨m,es,e,q,_⟩;exact q.2 q.1)
  |bor l=>obtain⟨_,_,_,_,_,_,_,y,_⟩:=b rfl;simp at y
  |ro l=>obtain⟨_,_,_,_,_,_,_,y,_⟩:=b rfl;simp at y
  |oo c l=>exact absurd g (by rintro⟨m,es,e,q,_⟩;exact q.2 q.1)
  |ob c l=>obtain⟨_,_,_,_,_,_,_,y,_⟩:=b rfl;simp at y
  |oq c l=>obtain⟨_,_,_,_,_,_,_,y,_⟩:=b rfl;simp at y
 |s :: sl,d :: ds,o :: cs,hl,q=>by
  have i:=tD (h:=h) (S:=S) (sl:=sl) (ds:=ds) (cs:=cs) (by simpa using hl) λa s' C F G=>by
   obtain⟨g,j,b⟩:=q (a+1) s' C (by simpa using F) (by simpa using G);exact⟨g,by simpa[locked]using j,λz=>by simpa using b z⟩
  obtain⟨g,j,b⟩:=q 0 s d (by simp) (by simp);cases s with
  |val v=>
   have:o.bind Sl.out=none:=by
    simp[locked]at j;rcases o with _|s
    .rfl
    .cases s<;>first|rfl|cases j
   simp only[ZU,aak,aar,this];exact⟨d,ds,rfl,i⟩
  |own l=>exact absurd g (by rintro⟨m,es,e,q,_⟩;exact q.2 q.1)
  |bor l=>
   obtain⟨m,es,k,s',p,r,x,f,A⟩:=b rfl;simp at f;subst f;simp only[ZU,aak,aar,Option.bind,A];exact⟨d,ds,k,_,m,es,rfl,rfl,p,r,x,i⟩
  |ro l=>
   obtain⟨m,es,k,s',p,r,x,f,A⟩:=b rfl;simp at f;subst f;simp only[ZU,aak,aar,Option.bind,A];exact⟨d,ds,k,_,m,es,rfl,rfl,p,r,x,i⟩
  |oo c l=>exact absurd g (by rintro⟨m,es,e,q,_⟩;exact q.2 q.1)
  |ob c l=>
   obtain⟨m,es,k,s',p,r,x,f,A⟩:=b rfl;simp at f;subst f;simp only[ZU,aak,aar,Option.bind,A];exact⟨d,ds,k,_,m,es,rfl,rfl,p,r,x,i⟩
  |oq c l=>
   obtain⟨m,es,k,s',p,r,x,f,A⟩:=b rfl;simp at f;subst f;simp only[ZU,aak,aar,Option.bind,A];exact⟨d,ds,k,_,m,es,rfl,rfl,p,r,x,i⟩
def NL{fn:Fn}{sl:List Sl}{ds:List D}{B:Nat->Prop}{h:Hh}{S:Nat->Prop}(F0:br B B h S (sl.map some) (ds.map some))(hlen:sl.length=ds.length):br B B h S (dz fn sl) (Ev.dz fn ds):=by
 unfold dz Ev.dz;have d:∀(i:Nat) o,(sl.map some++List.replicate (fn.ns - fn.np) none)[i]?=some o->(sl.map some)[i]?=some o\/(sl.length<=i/\o=none):=λi o y=>by
  by_cases a:i<sl.length
  .rw[gV (by simpa using a)]at y;exact .inl y
  .rw[Z5 (by simpa using a)]at y;have:=ZM y;exact .inr ⟨by omega,(List.mem_replicate.mp this).2⟩
 have e:∀(i:Nat) p,i<sl.length->(ds.map some++List.replicate (fn.ns - fn.np) none)[i]?=some p->(ds.map some)[i]?=some p:=λi p a y=>by
  rw[gV (by simpa[<-hlen]using a)]at y;exact y
 refine⟨F0.wS,F0.wM,F0.wB,by simp[hlen],λi o p b c=>?_,λi j o f m b c g k q r=>?_⟩
 .rcases d i o b with b|⟨a,rfl⟩
  .have a:i<sl.length:=by have:=(List.getElem?_eq_some_iff.mp b).1;simpa using this
   exact F0.sl i o p b (e i p a c)
  .rw[Z5 (by simpa[<-hlen]using a)]at c;have:=ZM c;exact(List.mem_replicate.mp this).2
 .rcases d i o b with b|⟨a,rfl⟩
  .rcases d j f c with c|⟨l,rfl⟩
   .have a:i<sl.length:=by have:=(List.getElem?_eq_some_iff.mp b).1;simpa using this
    have l:j<sl.length:=by have:=(List.getElem?_eq_some_iff.mp c).1;simpa using this
    exact F0.inj i j o f m b c g k (e i _ a q) (e j _ l r)
   .cases k
  .cases g
theorem CP(F:List Fn)(w:Nat):∀n,pH (run F w n) (Ev.run F w n)
 |0=>λf A v os e=>by simp[run]at e
 |n+1=>λf A v os e h S B ds F0=>by
  have HP:=CP F w n;simp only[run]at e;cases z:F[f]? with
  |none=>rw[z]at e;cases e
  |some j=>
  rw[z]at e;simp only at e;split at e
  case isFalse=>cases e
  rename_i hl;have k:A.length=ds.length:=by have:=F0.len;simpa using this
  have f1:br B B h S (dz j A) (Ev.dz j ds):=NL F0 k;have fin:∀{g:Fl} {C:Fr},exs (run F w n) w j.body (dz j A)=.ok g C->∃J K M' p S',Ev.exs (Ev.run F w n) w j.body (Ev.dz j ds) h=.ok (J,K) p/\iz p S' g J/\Tk B h S p S'/\oM p S' A ds (outs j.np C):=λ{g C} y=>by
   obtain⟨J,K,M',p,S',L,r,i⟩:=mT HP j.body y f1;refine⟨J,K,M',p,S',L,r,⟨i.tr.len,λm y1 M=>i.tr.keep m y1 M,i.tr.sub,λm q=>?_
    ,i.tr.cls
    ⟩,?_⟩
   .rcases i.tr.new m q with q|q|q
    .exact .inl q
    .exact .inr q
    .exact absurd q.1 q.2
   .unfold outs;rw[<-hl];refine tD (B:=B) (h0:=h) (S0:=S) k λa s d N Q=>?_;have Y:a<A.length:=(List.getElem?_eq_some_iff.mp N).1;have h0:(dz j A)[a]?=some (some s):=by unfold dz;rw[gV (by simpa using Y)];simp[N]
    have b:locked C a=uB (some s):=by rw[i.lk a];unfold locked;rw[h0]
    refine⟨F0.sl a _ _ (by simp[N]) (by simp[Q]),b,λx=>?_⟩;have Z:=i.rf a (by unfold locked;rw[h0];exact x);have hd:(Ev.dz j ds)[a]?=some (some d):=by unfold Ev.dz;rw[gV (by simpa[<-k]using Y)];simp[Q]
    rw[hd]at Z;cases M:C[a]? with
    |none=>unfold locked at b;rw[M]at b;rw[<-b]at x;cases x
    |some o=>
     have P:=i.f.sl a _ _ M Z;have s0:=F0.sl a (some s) (some d) (by simp[N]) (by simp[Q]);unfold locked at b;rw[M,x]at b;rcases o with _|s'
     .cases b
     .cases s' with
      |val v=>cases b
      |own l=>cases b
      |bor l=>obtain⟨m,G,e,_,H,I⟩:=P;cases e;exact⟨m,G,l,_,rfl,pK (s':=.bor l)
        s0 x rfl i.tr.cls
        H,I,rfl,rfl⟩
      |ro l=>obtain⟨m,G,e,_,H,I⟩:=P;cases e;exact⟨m,G,l,_,rfl,pK (s':=.ro l)
        s0 x rfl i.tr.cls
        H,I,rfl,rfl⟩
      |oo c l=>cases b
      |ob c l=>obtain⟨m,G,e,_,H,I⟩:=P;cases e;exact⟨m,G,l,_,rfl,pK (s':=.ob c l)
        s0 x rfl i.tr.cls
        H,I,rfl,rfl⟩
      |oq c l=>obtain⟨m,G,e,_,H,I⟩:=P;cases e;exact⟨m,G,l,_,rfl,pK (s':=.oq c l)
        s0 x rfl i.tr.cls
        H,I,rfl,rfl⟩
  simp only[Ev.gz,z];have W:ds.length=j.np:=by omega
  rw[xC W];split at e
  .rename_i v' C y;cases e;obtain⟨J,K,M',p,S',L,r,i,X⟩:=fin y;simp only[iz]at r;obtain⟨d,rfl,r⟩:=r;exact⟨d,p,S',by simp only[Ev.endOf,L,Ev.ak],r,i,X⟩
  .rename_i C y;cases e;obtain⟨J,K,M',p,S',L,r,i,X⟩:=fin y;simp only[iz]at r;subst r;exact⟨.aV,p,S',by simp only[Ev.endOf,L,Ev.ak],rfl,i,X⟩
  .cases e
end Pv
namespace Pv
open Ev (D O Hh Fn)
def Jy{F:List Fn}{w n f:Nat}{ns:List Int}(e:run F w n f [.val (.bT (ns.map V.int))]=some (.bl true,[]))(hF:F.length<=1000:=by decide):∃h',Ev.run F w n f [.ref 0] [.bT (ns.map D.int)]=.ok (.bl true) h':=by
 have F0:br (λ_=>False) (λ_=>False) [O.bT (ns.map D.int)] (λm=>m=0) ([Sl.val (.bT (ns.map V.int))].map some) ([D.ref 0].map some):=by
  refine⟨λm q=>⟨by subst q;simp,id,id⟩,λm q=>q.elim,λm q=>q.elim,rfl,λi o p c h=>?_,λi j o l m c h k r x y=>?_⟩
  .cases i with
   |zero=>
    simp at c h;subst c h;refine⟨.ref 0,rfl,?_⟩;simp only[Rep];exact⟨0,_,rfl,rfl,rfl,aq.map (f:=V.int) (g:=D.int) (λ_=>by simp[Rep]) ns⟩
   |succ i=>simp at c
  .cases i with
   |zero=>simp at c;subst c;cases k
   |succ i=>simp at c
 obtain⟨d,h',S',a,b,_,_⟩:=CP F w n f _ _ _ e _ _ _ _ F0;simp only[Rep]at b;subst b;exact⟨h',a⟩
end Pv
namespace Pv
open Ev (D bS bM TY BI ME T E Es Eo It S Ss Fn big deep b2i rep cC eK bE aT cut cR ef slots)
def cL{n:Nat}(h:n<=100000):n<=big:=Z2 h (by decide)
section
variable{i j:Int}{a b:List Nat}{x y:List V}{d e:V}{m n:Nat}{k l:Bool}
def gT(h:x.length<=big):fq x=some (.lst x):=by simp[fq,h]
def kM(h:x.length<=big):kI x=some (.tup x):=by simp[kI,h]
@[simp] theorem lQ:fq []=some (.lst []):=gT (cL (by simp))
@[simp] theorem AJ:kI []=some (.tup []):=kM (cL (by simp))
@[simp] theorem AK{a}:fq [a]=some (.lst [a]):=gT (cL (by simp))
@[simp] theorem pL{a}:kI [a]=some (.tup [a]):=kM (cL (by simp))
@[simp] theorem Q8{a b}:fq [a,b]=some (.lst [a,b]):=gT (cL (by simp))
@[simp] theorem gi{a b}:kI [a,b]=some (.tup [a,b]):=kM (cL (by simp))
@[simp] theorem rF{a b c}:kI [a,b,c]=some (.tup [a,b,c]):=kM (cL (by simp))
@[simp] theorem cj:bP .add (.int i) (.int j)=some (.int (i+j)):=nd rfl
def wH(h:a.length+b.length<=100000):bP .add (.str a) (.str b)=some (.str (a++b)):=by delta bP;dsimp only;simp[cL h]
def qy(h:x.length+y.length<=100000):bP .add (.tup x) (.tup y)=some (.tup (x++y)):=by delta bP;dsimp only;simp[cL h]
def EH(h:x.length+y.length<=100000):bP .add (.lst x) (.lst y)=some (.lst (x++y)):=by delta bP;dsimp only;simp[gT (cL (show(x++y).length<=100000 by simpa using h))]
@[simp] theorem jf:bP .sub (.int i) (.int j)=some (.int (i - j)):=nd rfl
@[simp] theorem qz:bP .mul (.int i) (.int j)=if cC i j then some (.int (i*j))else none:=nd rfl
def EI(h0:0<=j)(h1:j<=1000)(h2:a.length<=1000):bP .mul (.str a) (.int j)=some (.str (rep j.toNat a)):=by delta bP;dsimp only;simp[h0,h1,h2]
@[simp] theorem EJ:bP .fdiv (.int i) (.int j)=if 0<j/\j<1073741824 then some (.int (i / j))else none:=nd rfl
@[simp] theorem Jz:bP .mod (.int i) (.int j)=if 0<j then some (.int (i % j))else none:=nd rfl
@[simp] theorem oS:cop .ne d e=(cW deep d e).map (!·):=nd rfl
@[simp] theorem mem_cons:mem d (e :: x)=(cW deep e d).bind λb=>(mem d x).bind λc=>some (b ||c):=nd rfl
@[simp] theorem kN:cW (n+1) (.int i) (.int j)=some (decide (i=j)):=by show some (i==j)=_;by_cases h:i=j<;>simp[h]
@[simp] theorem rJ:cW (n+1) (.str a) (.str b)=some (decide (a=b)):=by show some (a==b)=_;by_cases h:a=b<;>simp[h]
@[simp] theorem Wy:cW (n+1) (.str a) (.int i)=some false:=nd rfl
@[simp] theorem Wz:cW (n+1) (.int i) (.str a)=some false:=nd rfl
@[simp] theorem NN:cW (n+1) (.tup x) (.tup y)=cG (cW n) x y:=nd rfl
@[simp] theorem NO:cW (n+1) (.lst x) (.lst y)=cG (cW n) x y:=nd rfl
@[simp] theorem zc:cW deep (.int i) (.int j)=some (decide (i=j)):=kN
@[simp] theorem ze:cW deep (.str a) (.str b)=some (decide (a=b)):=rJ
@[simp] theorem tE:cW deep (.tup x) (.tup y)=cG (cW (18+1)) x y:=nd rfl
@[simp] theorem zf:cW deep (.lst x) (.lst y)=cG (cW (18+1)) x y:=nd rfl
@[simp] theorem j7{f:V->V->Option Bool}:cG f [] []=some true:=nd rfl
@[simp] theorem WA{f:V->V->Option Bool}:cG f [] (d :: x)=some false:=nd rfl
@[simp] theorem WB{f:V->V->Option Bool}:cG f (d :: x) []=some false:=nd rfl
@[simp] theorem dM{f:V->V->Option Bool}:cG f (d :: x) (e :: y)=(f d e).bind λb=>(cG f x y).bind λc=>some (b&&c):=nd rfl
theorem j8{α:Type}[DecidableEq α]{f:V->V->Option Bool}{g:α->V}(h:∀a b,f (g a) (g b)=some (decide (a=b))):∀l m:List α,cG f (l.map g) (m.map g)=some (decide (l=m))
 |[],[]=>by simp
 |[],_ :: _=>by simp
 |_ :: _,[]=>by simp
 |a :: l,b :: m=>by simp[h,j8 h l m]
@[simp] theorem tF:eX (.str a) (.int i)=(bE a i).map λc=>.str [c]:=nd rfl
@[simp] theorem JB:eX (.lst x) (.int i)=bE x i:=nd rfl
@[simp] theorem jg{lo hi:Option Int}:ir (.str a) lo hi=some (.str (cut a lo hi)):=nd rfl
def abC(h:a.length<=100000):dS .len [.str a]=some (.int a.length):=by delta dS;dsimp only;simp[cL h]
@[simp] theorem pM:dS .len [.lst x]=some (.int x.length):=nd rfl
@[simp] theorem zg:dS .len [.bT x]=some (.int x.length):=nd rfl
@[simp] theorem JD:dS .sum [.lst x]=(intsOf x).map λis=>.int is.sum:=nd rfl
@[simp] theorem NP:dS .min [.int i,.int j]=some (.int (if j<i then j else i)):=nd rfl
@[simp] theorem zh:toT (.lst x)=kI x:=nd rfl
def NQ(h0:0<=j)(h1:j<=100000):dw [.int j]=some (range 0 j.toNat):=by
 simp only[dw];rw[xC ⟨by omega,by omega⟩]
def U0(h0:-100000<=i)(h1:i<=100000)(h2:-100000<=j)(h3:j<=100000):dw [.int i,.int j]=some (range i (j - i).toNat):=by
 simp only[dw];rw[xC ⟨by omega,by omega,by omega,by omega⟩]
def AL{α:Type}(g:α->Int)(l:List α):intsOf (l.map λx=>.int (g x))=some (l.map g):=by induction l<;>simp[intsOf, *]
def rK{α:Type}(g:α->List Nat)(l:List α):strsOf (l.map λx=>.str (g x))=some (l.map g):=by induction l<;>simp[strsOf, *]
theorem uD:∀l:List (List Nat),cR [] l=l.flatten
 |[]=>rfl
 |[s]=>by simp[cR]
 |s :: t :: r=>by simp[cR,uD (t :: r)]
@[simp] theorem WC:truthy (.bl k)=k:=nd rfl
@[simp] theorem Vl:truthy (.lst x) = !x.isEmpty:=nd rfl
def GQ{l:List (List Nat)}(h:l.flatten.length<=100000):fL .join (.str []) [.lst (l.map V.str)]=some (.str l.flatten):=by
 have f:=rK (λx=>x) l;have:(l.map (·.length)).sum<=big:=cL (by rw[<-List.length_flatten];exact h);simp only[List.map_id']at f;have c:strsOf (l.map V.str)=some l:=by simpa using rK (λx=>x) l
 delta fL;dsimp only;simp[wj,c,uD,this]
end
def CQ{α:Type}{f:V->Option (Option V)}(e:α->V)(g:α->V)(l:List α)(h:∀a∈l,f (e a)=some (some (g a))):cX f (l.map e)=some (l.map g):=by
 induction l with
 |nil=>rfl
 |cons a l b=>simp only[ZT,cX,h a (by simp),b λu c=>h u (by simp[c]),Option.bind];rfl
def oU{α:Type}{f:V->Option (Option V)}(e:α->V)(p:α->Bool)(g:α->V)(l:List α)(h:∀a∈l,f (e a)=some (if p a then some (g a)else none)):cX f (l.map e)=some ((l.filter p).map g):=by
 induction l with
 |nil=>rfl
 |cons a l b=>
  simp only[ZT,cX,h a (by simp),b λu c=>h u (by simp[c]),Option.bind];cases z:p a<;>simp[z]
def Wp{α:Type}(r:R α)(Q:α->Fr->Prop):Prop:=∃a h,r=.ok a h/\Q a h
section
variable{α β:Type}{Q Q':α->Fr->Prop}
@[simp] theorem rL(a:α)(h:Fr):Wp (.ok a h) Q=Q a h:=propext ⟨λ⟨_,_,e,q⟩=>by cases e;exact q,λq=>⟨_,_,rfl,q⟩⟩
@[simp] theorem WE:Wp (.bad:R α) Q=False:=propext ⟨λq=>(by obtain⟨_,_,e,_⟩:=q;cases e),False.elim⟩
@[simp] theorem wp_bind(r:R β)(f:β->Fr->R α):Wp (r.bind f) Q=Wp r λa h=>Wp (f a h) Q:=by cases r<;>simp
def Wp.mono{r:R α}(h:Wp r Q)(f:∀a h,Q a h->Q' a h):Wp r Q':=by
 obtain⟨a,b,e,q⟩:=h;exact⟨a,b,e,f a b q⟩
end
def fl(I Q:Fr->Prop)(X:V->Fr->Prop):Fl->Fr->Prop
 |.nx,fr=>I fr
 |.ct,fr=>I fr
 |.bk,fr=>Q fr
 |.ret v,fr=>X v fr
section
variable{I J:Fr->Prop}{X:V->Fr->Prop}{fr:Fr}
@[simp] theorem dB:fl I J X .nx fr=I fr:=nd rfl
end
theorem iA{α:Type}{e:α->V}{f:V->Fr->R Fl}{Q:Fl->Fr->Prop}(I:List α->List α->Fr->Prop)(turn:∀p a l fr,I p (a :: l) fr->Wp (f (e a) fr) (fl (I (p++[a]) l) (Q .nx) λv=>Q (.ret v)))(fin:∀p fr,I p [] fr->Q .nx fr):∀(l p:List α) (fr:Fr),I p l fr->Wp (forL f (l.map e) fr) Q
 |[],p,fr,i=>by simp only[abW,forL,rL];exact fin p fr i
 |a :: l,p,fr,i=>by
  simp only[ZT,forL,wp_bind];refine(turn p a l fr i).mono λg b q=>?_;cases g with
  |nx=>exact iA I turn fin l _ b q
  |ct=>exact iA I turn fin l _ b q
  |bk=>exact(rL _ _).mpr q
  |ret x=>exact(rL _ _).mpr q
def jh{f:V->Fr->R Fl}{Q:Fl->Fr->Prop}{lo:Int}{N:Nat}(I:Nat->Fr->Prop)(turn:∀(k:Nat) fr,k<N->I k fr->Wp (f (.int (lo+(k:Nat))) fr) (fl (I (k+1)) (Q .nx) λv=>Q (.ret v)))(fin:∀fr,I N fr->Q .nx fr){fr:Fr}(i:I 0 fr):Wp (forL f (range lo N) fr) Q:=by
 have h:=iA (e:=λ(k:Nat)=>V.int (lo+k)) (f:=f) (Q:=Q) (λp l fr=>∃k,k<=N/\p=List.range k/\p++l=List.range N/\I k fr)
  (λp a l fr ⟨k,j,d,c,q⟩=>by
   subst d;have b:=Z0 List.length c;simp at b;have o:a=k:=by
    have:=Z0 (·[k]?) c;simp[Z5]at this;rw[aaq (by omega)]at this;simpa using this
   subst o;refine(turn a fr (by omega) q).mono λg r z=>?_;cases g with
   |nx=>exact⟨a+1,by omega,by simp[aat],by simpa using c,z⟩
   |ct=>exact⟨a+1,by omega,by simp[aat],by simpa using c,z⟩
   |bk=>exact z
   |ret x=>exact z)
  (λp fr ⟨k,j,d,c,q⟩=>by
   subst d;have b:=Z0 List.length c;simp at b;subst b;exact fin fr q) (List.range N) [] fr ⟨0,aaz _,rfl,by simp,i⟩
 exact h
theorem wI{t:Fr->R Bool}{f:Fr->R Fl}{Q:Fl->Fr->Prop}(I:Nat->Fr->Prop)(turn:∀k fr,I k fr->Wp (t fr) λb af=>if b then Wp (f af) (fl (λao=>∃j,j<k/\I j ao) (Q .nx) λv=>Q (.ret v))else Q .nx af):∀(n k:Nat) (fr:Fr),k<n->I k fr->Wp (eg t f n fr) Q
 |0,k,fr,hk,_=>by omega
 |n+1,k,fr,hk,i=>by
  simp only[eg,wp_bind];refine(turn k fr i).mono λb af q=>?_;cases b with
  |false=>simpa using q
  |true=>
   simp only[Z4,wp_bind]at q ⊢;refine q.mono λg ao z=>?_;cases g with
   |nx=>obtain⟨j,a,z⟩:=z;exact wI I turn n j ao (by omega) z
   |ct=>obtain⟨j,a,z⟩:=z;exact wI I turn n j ao (by omega) z
   |bk=>exact(rL _ _).mpr z
   |ret x=>exact(rL _ _).mpr z
noncomputable def fin(fn:Fn)(ds:List Sl):R Fl->Option (V×List (List V))
 |.ok (.ret v) fr=>some (v,outs fn.np fr)
 |.ok .nx fr=>some (.aV,outs fn.np fr)
 |_=>MX fn ds
@[simp] theorem JF{fn:Fn}{ds:List Sl}{v:V}{fr:Fr}:fin fn ds (.ok (.ret v) fr)=some (v,outs fn.np fr):=nd rfl
def run_eq{F:List Fn}{w n f:Nat}{ds:List Sl}{fn:Fn}(hf:F[f]?=some fn)(hl:ds.length=fn.np):run F w (n+1) f ds=fin fn ds (exs (run F w n) w fn.body (dz fn ds)):=by
 simp only[gz,hf,hl,Z4];cases exs (run F w n) w fn.body (dz fn ds)with
 |bad=>rfl
 |ok g a=>cases g<;>rfl
def bX{F:List Fn}{w n f:Nat}{ds:List Sl}{fn:Fn}{v:V}{os:List (List V)}(hf:F[f]?=some fn)(hl:ds.length=fn.np)(q:Wp (exs (run F w n) w fn.body (dz fn ds)) λg fr=>g=.ret v/\outs fn.np fr=os):run F w (n+1) f ds=some (v,os):=by
 rw[run_eq hf hl];obtain⟨g,fr,e,rfl,rfl⟩:=q;rw[e];rfl
section
variable{P:aQ}{w:Nat}{fr:Fr}{k:Bool}{a b c:E}{es:Es}{ss sa sb:Ss}{st:S}{lo hi:Eo}{it:It}
@[simp] theorem U1{d:D}:ev P k (.c d) fr=R.of (ofD d) fr:=by rw[ev]
@[simp] theorem NR{i:Nat}:ev P k (.v i) fr=R.of (nh k fr i) fr:=by rw[ev]
@[simp] theorem NS:ev P k (.tup es) fr=(bq P false es fr).bind λds af=>R.of (kI ds) af:=by rw[ev]
@[simp] theorem NT:ev P k (.lst es) fr=(bq P false es fr).bind λds af=>R.of (fq ds) af:=by rw[ev]
@[simp] theorem NU{o:bS}:ev P k (.bin o a b) fr=(ev P (kf a (aP b)) a fr).bind λx af=>(ev P true b af).bind λy ao=>R.of (bP o x y) ao:=by rw[ev]
@[simp] theorem NV{o:bM}:ev P k (.cmp o a b) fr=(ev P (kf a (aP b)) a fr).bind λx af=>(ev P true b af).bind λy ao=>R.of ((cop o x y).map .bl) ao:=by rw[ev]
noncomputable def WG:V->Fr->R V:=λx d=>match x with
 |.bl b=>.ok (.bl (!b)) d
 |_=>.bad
@[simp] theorem Q9:ev P k (.nt a) fr=(ev P true a fr).bind WG:=by rw[ev];rfl
noncomputable def U3:V->Fr->R V:=λx d=>match x with
 |.int i=>.ok (.int (-i)) d
 |_=>.bad
@[simp] theorem NW:ev P k (.neg a) fr=(ev P true a fr).bind U3:=by rw[ev];rfl
noncomputable def Sq(r:Fr->R V):V->Fr->R V:=λx d=>match x with
 |.bl true=>r d
 |.bl false=>.ok (.bl false) d
 |_=>.bad
@[simp] theorem NX{k:Bool}{r:Fr->R V}:Sq r (.bl k) fr=if k then r fr else .ok (.bl false) fr:=by cases k<;>rfl
@[simp] theorem Ra:ev P k (.an a b) fr=(ev P true a fr).bind (Sq λh1=>ev P k b h1):=by rw[ev];rfl
@[simp] theorem NY:ev P k (.fS a b c) fr=(aM P a fr).bind λt af=>if t then ev P k b af else ev P k c af:=by rw[ev]
@[simp] theorem Rb:ev P k (.ix a b) fr=(ev P (kf a (aP b)) a fr).bind λx af=>(ev P true b af).bind λy ao=>R.of (eX x y) ao:=by rw[ev]
@[simp] theorem Rc:ev P k (.sl a lo hi) fr=(ev P (kf a (iL lo++iL hi)) a fr).bind λx af=>(gg P lo af).bind λl ao=>(gg P hi ao).bind λu cF=>R.of (ir x l u) cF:=by rw[ev]
@[simp] theorem Rf{f:Nat}:ev P k (.cl f es) fr=(fM P es fr).bind λas af=>b8 P f as af:=by rw[ev]
@[simp] theorem Rg{g:BI}:ev P k (.bi g es) fr=(bq P true es fr).bind λds af=>R.of (dS g ds) af:=by rw[ev]
noncomputable def EK(m:ME)(i:Nat):List V->Fr->R V:=λds d=>match d[i]? with
 |some (some (.own l))=>match lM m l ds with
  |some (v,l')=>.ok v (d.set i (some (.own l')))
  |none=>.bad
 |some (some (.bor l))=>match lM m l ds with
  |some (v,l')=>.ok v (d.set i (some (.bor l')))
  |none=>.bad
 |_=>.bad
def NZ{m:ME}{i:Nat}(hm:jy m=true):ev P k (.me m (.v i) es) fr=if (lent fr i).isSome then (bq P (Cy m) es fr).bind (EK m i)else .bad:=by
 rw[ev,xC hm];unfold lN;cases z:(lent fr i).isSome<;>simp[z]<;>rfl
def N1{m:ME}(hm:jy m=false):ev P k (.me m a es) fr=(ev P (kf a (cP es)) a fr).bind λx af=>(bq P true es af).bind λds ao=>R.of (fL m x ds) ao:=by rw[ev,hm];rfl
noncomputable def nB(P:aQ)(elt:E)(t:T)(cond:Eo)(fr:Fr):V->Option (Option V):=λd=>match cI t d (uz fr)with
 |none=>none
 |some e=>match iI P cond e with
  |.ok c _=>if c then (match ev P false elt e with|.ok x _=>some (some x)|.bad=>none)else some none
  |.bad=>none
@[simp] theorem sU{elt:E}{t:T}{cond:Eo}:ev P k (.comp elt t it cond) fr=(dj P true it fr).bind λs af=>if undef t af then R.of ((cX (nB P elt t cond af) s).bind fq) af else .bad:=by rw[ev];rfl
@[simp] theorem N3:ev P k (.gP it) fr=(dj P true it fr).bind λs af=>R.of (fq s) af:=by rw[ev]
@[simp] theorem N4:ev P k (.iY a) fr=(ev P true a fr).bind λx af=>R.of (toT x) af:=by rw[ev]
@[simp] theorem JH:bq P k .nil fr=.ok [] fr:=by rw[bq]
@[simp] theorem EL:bq P k (.cons a es) fr=(ev P (k&&kf a (cP es)) a fr).bind λd af=>(bq P k es af).bind λds ao=>.ok (d :: ds) ao:=by rw[bq]
@[simp] theorem JJ:fM P .nil fr=.ok [] fr:=by rw[fM]
noncomputable def AM(P:aQ)(a:E)(es:Es)(fr:Fr):Option Nat->R (List (Nat ⊕ V))
 |some i=>(fM P es fr).bind λr e=>.ok (.inl i :: r) e
 |none=>(ev P false a fr).bind λd e=>(fM P es e).bind λr f=>.ok (.inr d :: r) f
@[simp] theorem AN{i:Nat}:AM P a es fr (some i)=(fM P es fr).bind λr af=>.ok (.inl i :: r) af:=nd rfl
@[simp] theorem AO:AM P a es fr none=(ev P false a fr).bind λd af=>(fM P es af).bind λr ao=>.ok (.inr d :: r) ao:=nd rfl
@[simp] theorem wJ:fM P (.cons a es) fr=AM P a es fr (lN fr a):=by rw[fM];cases lN fr a<;>rfl
@[simp] theorem N5:gg P .no fr=.ok none fr:=by rw[gg]
@[simp] theorem JK:gg P (.yes a) fr=(ev P true a fr).bind λd af=>R.of ((intOf d).map some) af:=by rw[gg]
@[simp] theorem N6:iI P .no fr=.ok true fr:=by rw[iI]
@[simp] theorem JL:iI P (.yes a) fr=aM P a fr:=by rw[iI]
@[simp] theorem CS:aM P (.an a b) fr=(aM P a fr).bind λk af=>if k then aM P b af else .ok false af:=by rw[aM]
@[simp] theorem zj:aM P (.orr a b) fr=(aM P a fr).bind λk af=>if k then .ok true af else aM P b af:=by rw[aM]
@[simp] theorem N7:aM P (.nt a) fr=(aM P a fr).bind λk af=>.ok (!k) af:=by rw[aM]
noncomputable def N8:V->Fr->R Bool:=λx d=>.ok (truthy x) d
@[simp] theorem JM{x:V}:N8 x fr=.ok (truthy x) fr:=nd rfl
@[simp] theorem JN:dj P k (.seq a) fr=(src k fr a (ev P k a fr)).bind λx af=>R.of (fP x) af:=by rw[dj]
@[simp] theorem JP:dj P k (.fh es) fr=(bq P true es fr).bind λds af=>R.of (dw ds) af:=by rw[dj]
@[simp] theorem JQ:dj P k (.rev a) fr=(ev P true a fr).bind λx af=>R.of ((AG x).map λs=>s.reverse) af:=by rw[dj]
noncomputable def N9(i:Nat)(af:Fr):V->R Fl
 |.lst l=>(R.of (put af i (.own l)) af).bind λd _=>.ok .nx d
 |_=>.bad
@[simp] theorem EM{i:Nat}{l:List V}:N9 i fr (.lst l)=(R.of (put fr i (.own l)) fr).bind λao _=>.ok .nx ao:=nd rfl
@[simp] theorem CT{i:Nat}:ex P w (.set i a) fr=(ev P false a (sZ a fr)).bind λx af=>if isNew a then N9 i af x else (R.of (put af i (.val x)) af).bind λao _=>.ok .nx ao:=by
 rw[ex];rfl
@[simp] theorem Oa:ex P w (.exp a) fr=(ev P true a fr).bind λ_ af=>.ok .nx af:=by rw[ex]
@[simp] theorem Ob:ex P w (.ret a) fr=(ev P false a (gh fr)).bind λx af=>.ok (.ret x) af:=by rw[ex]
@[simp] theorem Oc:ex P w (.iff a sa sb) fr=(aM P a fr).bind λk af=>if k then exs P w sa af else exs P w sb af:=by rw[ex]
noncomputable def turnF(P:aQ)(w:Nat)(t:T)(b:Ss):V->Fr->R Fl:=λd e=>match cI t d e with
 |some f=>exs P w b f
 |none=>.bad
@[simp] theorem vL{t:T}:ex P w (.for t it ss) fr=(dj P false it (uW (itv it) fr)).bind λs af=>forL (turnF P w t ss) s af:=by rw[ex];rfl
@[simp] theorem Od:ex P w (.pY a ss) fr=eg (λao=>aM P a ao) (λao=>exs P w ss ao) w fr:=by rw[ex]
@[simp] theorem zm:exs P w .nil fr=.ok .nx fr:=by rw[exs]
noncomputable def GR(P:aQ)(w:Nat)(ss:Ss):Fl->Fr->R Fl:=λp d=>match p with
 |.nx=>exs P w ss d
 |p=>.ok p d
@[simp] theorem U4:GR P w ss .nx fr=exs P w ss fr:=nd rfl
@[simp] theorem EN:exs P w (.cons st ss) fr=(ex P w st fr).bind (GR P w ss):=by rw[exs];rfl
end
def oV{P:aQ}{f:Nat}{vs:List V}{fr:Fr}{v:V}(h:P f (vs.map .val)=some (v,[])):b8 P f (vs.map .inr) fr=.ok v fr:=by
 have a:∀vs:List V,bh (vs.map .inr)=[]:=λvs=>by induction vs<;>simp[bh, *]
 have b:∀vs:List V,args fr (vs.map .inr)=some (vs.map .val):=λvs=>by induction vs<;>simp[args, *]
 simp[b8,a,b,h,back]
section
variable{P:aQ}{f:Nat}{fr:Fr}{a b c v:V}
def gD(h:P f [.val a]=some (v,[])):b8 P f [.inr a] fr=.ok v fr:=oV (vs:=[a]) h
def call2(h:P f [.val a,.val b]=some (v,[])):b8 P f [.inr a,.inr b] fr=.ok v fr:=oV (vs:=[a,b]) h
def gj(h:P f [.val a,.val b,.val c]=some (v,[])):b8 P f [.inr a,.inr b,.inr c] fr=.ok v fr:=oV (vs:=[a,b,c]) h
end
section
variable{fr:Fr}{i:Nat}{k:Bool}{s:Sl}{v:V}{l:List V}
noncomputable def X5(k:Bool):Option (Option Sl)->Option V
 |some (some (.val v))=>some v
 |some (some (.own l))=>if k then some (.lst l)else none
 |some (some (.bor l))=>if k then some (.lst l)else none
 |some (some (.ro l))=>if k then some (.lst l)else none
 |_=>none
@[simp] theorem Rh{r:R V}:src k fr (.v i) r=R.of (AH k fr i) fr:=nd rfl
noncomputable def Oe:Option (Option Sl)->Option Sl
 |some (some s)=>s.lend
 |_=>none
@[simp] theorem JR:lent fr i=Oe fr[i]?:=by unfold lent Oe;split<;>simp_all
@[simp] theorem Vm:Oe (some (some (.own l)))=some (.bor l):=nd rfl
noncomputable def Of(fr:Fr)(i:Nat)(s:Sl):Option (Option Sl)->Option Fr
 |some (some (.bor _))=>none
 |some (some (.ro _))=>none
 |some (some (.ob _ _))=>none
 |some (some (.oq _ _))=>none
 |_=>some (fr.set i (some s))
@[simp] theorem Oh:put fr i s=Of fr i s fr[i]?:=by unfold put Of;split<;>simp_all
@[simp] theorem AQ{l:List Nat}{x:List V}:cI (.many l) (.tup x) fr=cV l x fr:=nd rfl
@[simp] theorem AR:cV [] [] fr=some fr:=nd rfl
@[simp] theorem x6{l:List Nat}{x:List V}:cV (i :: l) (v :: x) fr=(put fr i (.val v)).bind (cV l x):=nd rfl
noncomputable def gU(m:ME)(i:Nat)(ds:List V)(fr:Fr):Option (Option Sl)->R V
 |some (some (.own l))=>match lM m l ds with
  |some (v,l')=>.ok v (fr.set i (some (.own l')))
  |none=>.bad
 |some (some (.bor l))=>match lM m l ds with
  |some (v,l')=>.ok v (fr.set i (some (.bor l')))
  |none=>.bad
 |_=>.bad
@[simp] theorem JU{m:ME}{ds:List V}:EK m i ds fr=gU m i ds fr fr[i]?:=by unfold EK gU;split<;>simp_all<;>rfl
def j9{d:V}(h:l.length<100000):gU .append i [d] fr (some (some (.own l)))=.ok .aV (fr.set i (some (.own (l++[d])))):=by
 simp[gU,lM,ZN h (show 100000<=big by decide)]
def JV{d:V}(h:l.length<100000):gU .append i [d] fr (some (some (.bor l)))=.ok .aV (fr.set i (some (.bor (l++[d])))):=by
 simp[gU,lM,ZN h (show 100000<=big by decide)]
def zo{d:List V}(h:l.length+d.length<=100000):gU .extend i [.lst d] fr (some (some (.own l)))=.ok .aV (fr.set i (some (.own (l++d)))):=by
 simp[gU,lM,cL h]
def tG:gU .pop i [] fr (some (some (.own (l++[v]))))=.ok v (fr.set i (some (.own l))):=by
 simp[gU,lM]
def JX:gU .pop i [] fr (some (some (.bor (l++[v]))))=.ok v (fr.set i (some (.bor l))):=by
 simp[gU,lM]
end
def vo(o:Option Sl):Prop:=o=none\/∃y,o=some (.val y)
theorem vo.none:vo none:=.inl rfl
theorem vo.val{v:V}:vo (some (.val v)):=.inr ⟨v,rfl⟩
def Oi{fr:Fr}{i:Nat}{s:Sl}{b:Option Sl}(h:vo b):Of fr i s (some b)=some (fr.set i (some s)):=by rcases h with rfl|⟨y,rfl⟩<;>rfl
def dR{b:Option Sl}(h:vo b):b.map Sl.eZ=b:=by rcases h with rfl|⟨y,rfl⟩<;>rfl
noncomputable def Ri(f:V->Fr->R Fl)(ds:List V):Fl->Fr->R Fl:=λp a=>match p with
 |.nx=>forL f ds a
 |.ct=>forL f ds a
 |.bk=>.ok .nx a
 |.ret x=>.ok (.ret x) a
section
variable{f:V->Fr->R Fl}{ds:List V}{d:V}{fr:Fr}
@[simp] theorem uf:forL f (d :: ds) fr=(f d fr).bind (Ri f ds):=nd rfl
end
section
variable{a b c:E}{es:Es}{lo hi:Eo}{it:It}
@[simp] theorem Xp{d:D}:aP (.c d)=[]:=rfl
@[simp] theorem Xq{i:Nat}:aP (.v i)=[]:=rfl
@[simp] theorem Vn:aP (.tup es)=cP es:=rfl
@[simp] theorem Vo:aP (.lst es)=cP es:=rfl
@[simp] theorem Vp{o:bS}:aP (.bin o a b)=aP a++aP b:=rfl
@[simp] theorem Vq{o:bM}:aP (.cmp o a b)=aP a++aP b:=rfl
@[simp] theorem WH:aP (.nt a)=aP a:=rfl
@[simp] theorem Vr:aP (.neg a)=aP a:=rfl
@[simp] theorem WI:aP (.an a b)=aP a++aP b:=rfl
@[simp] theorem Vs:aP (.orr a b)=aP a++aP b:=rfl
@[simp] theorem Vt:aP (.fS a b c)=aP a++(aP b++aP c):=rfl
@[simp] theorem WJ:aP (.ix a b)=aP a++aP b:=rfl
@[simp] theorem WK:aP (.sl a lo hi)=aP a++(iL lo++iL hi):=rfl
@[simp] theorem WL{f:Nat}:aP (.cl f es)=cP es++eG es:=rfl
@[simp] theorem WM{f:BI}:aP (.bi f es)=cP es:=rfl
@[simp] theorem WN{m:ME}:aP (.me m a es)=aP a++(cP es++GC m a):=rfl
@[simp] theorem U5{t:T}:aP (.comp a t it lo)=wm it:=rfl
@[simp] theorem Vu:aP (.gP it)=wm it:=rfl
@[simp] theorem Vv:aP (.iY a)=aP a:=rfl
end
def wK{α:Type}{l:List α}{i:Int}(h0:0<=i):bE l i=l[i.toNat]?:=by
 unfold bE eK;rw[xC h0];split
 .rfl
 .rw[aac (by omega)];rfl
@[simp] theorem o9{α:Type}{l:List α}{n:Nat}:bE l (n:Int)=l[n]?:=by rw[wK (by omega)];simp
def rM{α:Type}{l:List α}:bE l (-1:Int)=l.getLast?:=by
 unfold bE eK;cases l with
 |nil=>rfl
 |cons a l=>
  have b:¬ (0:Int)<=-1:=by omega
  have c:-(((a :: l).length:Nat):Int)<=-1:=by simp;omega
  rw[ZS b,xC c,List.getLast?_eq_getElem?];simp only[Option.bind]
  congr 1
  simp;omega
noncomputable def rN:Fn:=⟨2,2,(.cons (.iff (.cmp .eq (.v 0) (.lst .nil)) (.cons (.ret (.bin .mul (.c (.int 7)) (.v 1))) .nil) .nil) (.cons (.ret (.bin .add (.ix (.v 0) (.bin .mod (.v 1) (.bi .len (.cons (.v 0) .nil)))) (.bin .mul (.c (.int 6553)) (.bin .fdiv (.v 1) (.bi .len (.cons (.v 0) .nil)))))) .nil))⟩
noncomputable def rO(c:Nat):Fn:=⟨3,4,(.cons (.set 3 (.bin .mod (.bin .add (.bin .mul (.bin .mod (.cl c (.cons (.v 0) (.cons (.v 1) .nil))) (.c (.int 2147483563))) (.c (.int 69069))) (.bin .mul (.c (.int 104723)) (.bin .add (.v 1) (.c (.int 1))))) (.c (.int 2147483563)))) (.cons (.set 3 (.bin .mod (.bin .add (.bin .mul (.v 3) (.v 3)) (.bin .fdiv (.v 3) (.c (.int 3)))) (.c (.int 2147483399)))) (.cons (.ret (.bin .mod (.bin .fdiv (.bin .mod (.bin .add (.bin .mul (.v 3) (.v 3)) (.bin .fdiv (.v 3) (.c (.int 7)))) (.c (.int 2147483647))) (.c (.int 11))) (.v 2))) .nil)))⟩
noncomputable def u0(ns:List Int)(k:Int):Int:=if ns=[]then 7*k else (ns[(k % ns.length).toNat]?.getD 0)+6553*(k / ns.length)
noncomputable def cO(ns:List Int)(k many:Int):Int:=
 let c:=(u0 ns k % 2147483563*69069+104723*(k+1)) % 2147483563
 let c:=(c*c+c / 3) % 2147483399
 (c*c+c / 7) % 2147483647 / 11 % many
def kP(ns:List Int)(k:Int){many:Int}(h:0<many):0<=cO ns k many:=abF _ (by omega)
def kQ(ns:List Int)(k:Int){many:Int}(h:0<many):cO ns k many<many:=abj _ h
noncomputable def dW(ns:List Int):V:=.bT (ns.map V.int)
def JY(ns:List Int):cG (cW (18+1)) (ns.map V.int) []=some (decide (ns=[])):=by cases ns<;>simp
section
variable{P:aQ}{w:Nat}{fr af ao cF:Fr}{k b:Bool}{a e c:E}{es:Es}{ss sa sb:Ss}{st:S}{lo hi:Eo}{it:It}{v x y z:V}{vs:List V}{i:Nat}{l:List V}{Q:Fl->Fr->Prop}
def aR{d:D}(h:ofD d=some v):ev P k (.c d) fr=.ok v fr:=by rw[U1,h];rfl
def aB(h:nh k fr i=some v):ev P k (.v i) fr=.ok v fr:=by rw[NR,h];rfl
def cY(h:bq P false es fr=.ok vs af)(h2:kI vs=some v):ev P k (.tup es) fr=.ok v af:=by rw[NS,h,ak,h2];rfl
def jz(h:bq P false es fr=.ok vs af)(h2:fq vs=some v):ev P k (.lst es) fr=.ok v af:=by rw[NT,h,ak,h2];rfl
def aU{o:bS}(h:ev P (kf a (aP e)) a fr=.ok x af)(h2:ev P true e af=.ok y ao)(h3:bP o x y=some v):ev P k (.bin o a e) fr=.ok v ao:=by rw[NU,h,ak,h2,ak,h3];rfl
def bI{o:bM}(h:ev P (kf a (aP e)) a fr=.ok x af)(h2:ev P true e af=.ok y ao)(h3:cop o x y=some b):ev P k (.cmp o a e) fr=.ok (.bl b) ao:=by rw[NV,h,ak,h2,ak,h3];rfl
def U6(h:ev P true a fr=.ok (.bl b) af):ev P k (.nt a) fr=.ok (.bl (!b)) af:=by rw[Q9,h];rfl
def jA{j:Int}(h:ev P true a fr=.ok (.int j) af):ev P k (.neg a) fr=.ok (.int (-j)) af:=by rw[NW,h];rfl
def GU(h:ev P true a fr=.ok (.bl true) af)(h2:ev P k e af=.ok v ao):ev P k (.an a e) fr=.ok v ao:=by rw[Ra,h,ak,NX];exact h2
def jU(h:aM P a fr=.ok b af)(h2:b=true->ev P k e af=.ok v ao)(h3:b=false->ev P k c af=.ok v ao):ev P k (.fS a e c) fr=.ok v ao:=by
 rw[NY,h,ak];cases b with
 |true=>exact h2 rfl
 |false=>exact h3 rfl
def dN(h:ev P (kf a (aP e)) a fr=.ok x af)(h2:ev P true e af=.ok y ao)(h3:eX x y=some v):ev P k (.ix a e) fr=.ok v ao:=by rw[Rb,h,ak,h2,ak,h3];rfl
def Oj{p q:Option Int}(h:ev P (kf a (iL lo++iL hi)) a fr=.ok x af)(h2:gg P lo af=.ok p ao)(h3:gg P hi ao=.ok q cF)(h4:ir x p q=some v):ev P k (.sl a lo hi) fr=.ok v cF:=by rw[Rc,h,ak,h2,ak,h3,ak,h4];rfl
def cZ{f:Nat}{as:List (Nat ⊕ V)}(h:fM P es fr=.ok as af)(h2:b8 P f as af=.ok v ao):ev P k (.cl f es) fr=.ok v ao:=by rw[Rf,h,ak];exact h2
def gM{g:BI}(h:bq P true es fr=.ok vs af)(h2:dS g vs=some v):ev P k (.bi g es) fr=.ok v af:=by rw[Rg,h,ak,h2];rfl
def rP{m:ME}(hm:jy m=true)(hl:(lent fr i).isSome=true)(h:bq P (Cy m) es fr=.ok vs af)(h2:gU m i vs af af[i]?=.ok v ao):ev P k (.me m (.v i) es) fr=.ok v ao:=by
 rw[NZ hm,xC hl,h,ak,JU];exact h2
def GV{m:ME}(hm:jy m=false)(h:ev P (kf a (cP es)) a fr=.ok x af)(h2:bq P true es af=.ok vs ao)(h3:fL m x vs=some v):ev P k (.me m a es) fr=.ok v ao:=by rw[N1 hm,h,ak,h2,ak,h3];rfl
def wL{t:T}{cond:Eo}(h:dj P true it fr=.ok vs af)(hu:undef t af=true)(h2:cX (nB P a t cond af) vs=some l)(h3:fq l=some v):ev P k (.comp a t it cond) fr=.ok v af:=by
 rw[sU,h,ak,xC hu,h2];show R.of (fq l) af=_;rw[h3];rfl
def u5(h:dj P true it fr=.ok vs af)(h2:fq vs=some v):ev P k (.gP it) fr=.ok v af:=by rw[N3,h,ak,h2];rfl
def u6(h:ev P true a fr=.ok x af)(h2:toT x=some v):ev P k (.iY a) fr=.ok v af:=by rw[N4,h,ak,h2];rfl
def aD:bq P k .nil fr=.ok [] fr:=JH
def av(h:ev P (k&&kf a (cP es)) a fr=.ok v af)(h2:bq P k es af=.ok vs ao):bq P k (.cons a es) fr=.ok (v :: vs) ao:=by rw[EL,h,ak,h2];rfl
def aJ:fM P .nil fr=.ok [] fr:=JJ
def aX{as:List (Nat ⊕ V)}(hi:lN fr a=none)(h:ev P false a fr=.ok v af)(h2:fM P es af=.ok as ao):fM P (.cons a es) fr=.ok (.inr v :: as) ao:=by rw[wJ,hi,AO,h,ak,h2];rfl
def b7{as:List (Nat ⊕ V)}(hi:lN fr a=some i)(h2:fM P es fr=.ok as ao):fM P (.cons a es) fr=.ok (.inl i :: as) ao:=by rw[wJ,hi,AN,h2];rfl
def Rj:gg P .no fr=.ok none fr:=N5
def wN{j:Int}(h:ev P true a fr=.ok (.int j) af):gg P (.yes a) fr=.ok (some j) af:=by rw[JK,h];rfl
def rQ(h:aM P a fr=.ok false af):aM P (.an a e) fr=.ok false af:=by rw[CS,h];rfl
def gW{b2:Bool}(h:aM P a fr=.ok true af)(h2:aM P e af=.ok b2 ao):aM P (.an a e) fr=.ok b2 ao:=by rw[CS,h];exact h2
def CU(h:aM P a fr=.ok true af):aM P (.orr a e) fr=.ok true af:=by rw[zj,h];rfl
def iR{b2:Bool}(h:aM P a fr=.ok false af)(h2:aM P e af=.ok b2 ao):aM P (.orr a e) fr=.ok b2 ao:=by rw[zj,h];exact h2
def rR(h:aM P a fr=.ok b af):aM P (.nt a) fr=.ok (!b) af:=by rw[N7,h];rfl
noncomputable def plainT:E->Bool
 |.an _ _=>false
 |.orr _ _=>false
 |.nt _=>false
 |_=>true
def aE(hp:plainT a=true)(h:ev P true a fr=.ok x af)(h2:truthy x=b):aM P a fr=.ok b af:=by
 have:aM P a fr=(ev P true a fr).bind N8:=by
  cases a<;>first | (cases hp;done) | (rw[aM];rfl;all_goals (intros;contradiction))
 rw[this,h,ak,JM,h2]
def kR(h:src k fr a (ev P k a fr)=.ok x af)(h2:fP x=some vs):dj P k (.seq a) fr=.ok vs af:=by rw[JN,h,ak,h2];rfl
def kg(h:AH k fr i=some v){r:R V}:src k fr (.v i) r=.ok v fr:=by rw[Rh,h];rfl
def iU(h:bq P true es fr=.ok vs af)(h2:dw vs=some l):dj P k (.fh es) fr=.ok l af:=by rw[JP,h,ak,h2];rfl
def CV(h:ev P true a fr=.ok x af)(h2:AG x=some vs):dj P k (.rev a) fr=.ok vs.reverse af:=by rw[JQ,h,ak,h2];rfl
def zp(h:ev P false a fr=.ok v af):sZ a fr=fr:=by
 cases a with
 |v j=>
  simp only[NR]at h;show fr.modify j _=fr;apply abv;intro i;rw[acw];cases z:fr[i]? with
  |none=>rfl
  |some o=>
   show some (if j=i then Option.map Sl.eZ o else o)=some o;by_cases d:j=i
   .subst d;rw[xC rfl];unfold nh at h;rw[z]at h;rcases o with _|s
    .rfl
    .cases s with
     |own l=>cases h
     |_=>rfl
   .rw[ZS d]
 |_=>rfl
def bD(h:ev P false a fr=.ok v af)(hn:isNew a=false)(hp:put af i (.val v)=some ao)(q:Q .nx ao):Wp (ex P w (.set i a) fr) Q:=by
 rw[CT,zp h,h,ak,hn,hp];exact⟨_,_,rfl,q⟩
def iV(h:ev P false a fr=.ok (.lst l) af)(hn:isNew a=true)(hp:put af i (.own l)=some ao)(q:Q .nx ao):Wp (ex P w (.set i a) fr) Q:=by
 rw[CT,zp h,h,ak,hn,xC rfl,EM,hp];exact⟨_,_,rfl,q⟩
def cS(h:ev P true a fr=.ok v af)(q:Q .nx af):Wp (ex P w (.exp a) fr) Q:=by rw[Oa,h];exact⟨_,_,rfl,q⟩
def bN(h:ev P false a (gh fr)=.ok v af)(q:Q (.ret v) af):Wp (ex P w (.ret a) fr) Q:=by rw[Ob,h];exact⟨_,_,rfl,q⟩
def aL(h:aM P a fr=.ok b af)(h2:b=true->Wp (exs P w sa af) Q)(h3:b=false->Wp (exs P w sb af) Q):Wp (ex P w (.iff a sa sb) fr) Q:=by
 rw[Oc,h,ak];cases b with
 |true=>exact h2 rfl
 |false=>exact h3 rfl
def az(q:Q .nx fr):Wp (exs P w .nil fr) Q:=by rw[zm];exact⟨_,_,rfl,q⟩
def nx(P:aQ)(w:Nat)(ss:Ss)(Q:Fl->Fr->Prop):Fl->Fr->Prop
 |.nx,fr=>Wp (exs P w ss fr) Q
 |g,fr=>Q g fr
def ai(q:Wp (ex P w st fr) (nx P w ss Q)):Wp (exs P w (.cons st ss) fr) Q:=by
 rw[EN,wp_bind];refine q.mono λg af z=>?_;cases g with
 |nx=>exact z
 |bk=>exact⟨_,_,rfl,z⟩
 |ct=>exact⟨_,_,rfl,z⟩
 |ret v=>exact⟨_,_,rfl,z⟩
def gY{t:T}(h:dj P false it (uW (itv it) fr)=.ok vs af)(q:Wp (forL (turnF P w t ss) vs af) Q):Wp (ex P w (.for t it ss) fr) Q:=by rw[vL,h,ak];exact q
def Rk(q:Wp (eg (λao=>aM P a ao) (λao=>exs P w ss ao) w fr) Q):Wp (ex P w (.pY a ss) fr) Q:=by rw[Od];exact q
def dh{t:T}{d:V}(hb:cI t d fr=some af)(q:Wp (exs P w ss af) Q):Wp (turnF P w t ss d fr) Q:=by unfold turnF;rw[hb];exact q
def Ol{t:T}{d:V}(hb:cI t d (uz fr)=some af)(h:ev P false a af=.ok v ao):nB P a t .no fr d=some (some v):=by
 unfold nB;rw[hb];dsimp only;rw[N6];dsimp only;rw[h];rfl
def zq{t:T}{d:V}(hb:cI t d (uz fr)=some af)(h:aM P c af=.ok b ao)(h2:b=true->ev P false a af=.ok v cF):nB P a t (.yes c) fr d=some (if b then some v else none):=by
 unfold nB;rw[hb];dsimp only;rw[JL,h];dsimp only;cases b with
 |true=>rw[h2 rfl];rfl
 |false=>rfl
def tK{p q:List Nat}:cop .eq (.str p) (.str q)=some (decide (p=q)):=ze
def gE{p q:List Nat}:cop .ne (.str p) (.str q)=some (!decide (p=q)):=by rw[oS,ze];rfl
def qA{p q:Int}:cop .eq (.int p) (.int q)=some (decide (p=q)):=zc
def GW{p q:Int}:cop .ne (.int p) (.int q)=some (!decide (p=q)):=by rw[oS,zc];rfl
def EO{p q:Int}:cop .lt (.int p) (.int q)=some (decide (p<q)):=rfl
def tL{p q:Int}:cop .gt (.int p) (.int q)=some (decide (q<p)):=rfl
def jV{p q:Int}(h:cC p q=true):bP .mul (.int p) (.int q)=some (.int (p*q)):=by rw[qz,xC h]
def pN{p q:Int}(h:0<q):bP .mod (.int p) (.int q)=some (.int (p % q)):=by rw[Jz,xC h]
def u7{p q:Int}(h:0<q)(h2:q<1073741824):bP .fdiv (.int p) (.int q)=some (.int (p / q)):=by rw[EJ,xC ⟨h,h2⟩]
end
def kT{fr:Fr}{i:Nat}{s:Sl}{o:Option Sl}(e:fr[i]?=some o)(h:vo o):put fr i s=some (fr.set i (some s)):=by rw[Oh,e,Oi h]
def nC{fr:Fr}{i j:Nat}{u v:V}{a b:Option Sl}(ea:fr[i]?=some a)(ha:vo a)(eb:(fr.set i (some (.val u)))[j]?=some b)(hb:vo b):cI (.many [i,j]) (.tup [u,v]) fr=some ((fr.set i (some (.val u))).set j (some (.val v))):=by
 simp only[AQ,x6,AR,kT ea ha,Option.bind,kT eb hb]
def bind1{fr:Fr}{i:Nat}{v:V}{a:Option Sl}(ea:fr[i]?=some a)(ha:vo a):cI (.one i) v fr=some (fr.set i (some (.val v))):=kT ea ha
section
variable{P:aQ}{w:Nat}{fr af ao:Fr}{k:Bool}{e:E}{es:Es}{v:V}{vs xs xs' l l':List V}{i j n:Nat}{Q:Fl->Fr->Prop}{c:Ev.Cl}{s:Sl}
def Rl(h:ja c fr[i]?=some l)(hn:n<c.nv)(hv:l[n]?=some v):ev P k (.fld c i n) fr=.ok v fr:=by
 rw[ev,h];simp only;rw[xC hn,hv];rfl
def mh{o:Ev.FU}(h0:(ja c fr[i]?).isSome=true)(h:bq P true es fr=.ok vs af)(h1:ja c af[i]?=some l)(h2:nP c l n=some xs)(h3:qg o xs vs=some v):ev P k (.fu c o i n es) fr=.ok v af:=by
 rw[ev,xC h0,h,ak,h1];simp only;rw[h2];simp only[Option.bind];rw[h3];rfl
def U7{o:Ev.FM}(h0:(ja c fr[i]?).isSome=true)(h:bq P false es fr=.ok vs af)(h1:qf c af[i]?=some (s,l))(h2:nP c l n=some xs)(h3:Cz o xs vs=some (v,xs'))(h4:af.set i (some (s.with (l.set n (.tup xs'))))=ao):ev P k (.fm c o i n es) fr=.ok v ao:=by
 rw[ev,xC h0,h,ak,h1];simp only;rw[h2];simp only[Option.bind];rw[h3];simp only[bQ,ak];rw[h4]
def Om(h1:qf c fr[i]?=some (s,l))(h2:uA c l n j=some l')(h4:fr.set i (some (s.with l'))=ao):ev P k (.mv c i n j) fr=.ok .aV ao:=by
 rw[ev,h1];simp only;rw[h2];simp only[bQ,ak];rw[h4]
def bY{f:Nat}{as:List (Nat ⊕ V)}(h0:wo c fr es=true)(h:fM P es fr=.ok as af)(h2:b8 P f as af=.ok v ao):ev P k (.bJ c f es) fr=.ok v ao:=by rw[ev,xC h0,h,ak];exact h2
def Rm(h1:qf c fr[i]?=some (s,l))(h2:(c.nv<=n/\n<c.nl)/\n<l.length)(h4:fr.set i (some (s.with (l.set n (.tup []))))=ao)(q:Q .nx ao):Wp (ex P w (.pZ c i n) fr) Q:=by
 rw[ex,h1];simp only;rw[xC h2,h4];exact⟨_,_,rfl,q⟩
def Oo{ff fd j:Nat}(h:ja c fr[n]?=some l)(hd:P fd []=some (.aV,[]))(h2:l.length=c.nm.length)(h3:put fr j (.oo c l)=some ao)(q:Q .nx ao):Wp (ex P w (.tw c j ff fd n) fr) Q:=by
 simp only[ex,h];rw[show b8 P fd [] fr=.ok .aV fr by simp[b8,bh,args,hd,back]];rw[ak,xC h2,h3];exact⟨_,_,rfl,q⟩
def Rn{fd:Nat}{tp:List Ev.TP}(h:bq P false es fr=.ok vs af)(hd:P fd []=some (.aV,[]))(h1:yV vs tp=some l)(h2:l.length=c.nm.length)(h3:put af i (.oo c l)=some ao)(q:Q .nx ao):Wp (ex P w (.new c i fd tp es) fr) Q:=by
 rw[ex,h,ak];rw[show b8 P fd [] af=.ok .aV af by simp[b8,bh,args,hd,back]];rw[ak,h1,bQ,ak,xC h2,h3];exact⟨_,_,rfl,q⟩
def zu{F:List Fn}{fd eO m:Nat}(h0:F[eO]?=some ⟨0,0,.nil⟩)(h1:F[fd]?=some ⟨0,0,.cons (.exp (.cl eO .nil)) .nil⟩):run F w (m+2) fd []=some (.aV,[]):=by
 have e:run F w (m+1) eO []=some (.aV,[]):=by simp[gz,h0,zm,dz,outs]
 rw[gz,h1];have:exs (run F w (m+1)) w (.cons (.exp (.cl eO .nil)) .nil) (dz ⟨0,0,.cons (.exp (.cl eO .nil)) .nil⟩ [])=.ok .nx []:=by
  simp[dz,b8,bh,args,e,back]
 simp only[aaR,Z4,this,outs,List.take_nil,acG]
end
end Pv
local macro_rules|`(tactic|array_get_dec)=>`(tactic|first
 |exact Pv.aD|exact Pv.aJ|exact Pv.Rj
 | (apply Pv.aB;rfl) | (apply Pv.aR;rfl)|apply Pv.aU|apply Pv.bI|apply Pv.cY|apply Pv.jz|apply Pv.dN|apply Pv.Oj|apply Pv.cZ|apply Pv.gM
 |apply Pv.U6|apply Pv.jA|apply Pv.u6|apply Pv.u5  | (apply Pv.rP rfl rfl) | (apply Pv.GV rfl)
 |apply Pv.av | (apply Pv.aX rfl) | (apply Pv.b7 rfl)|apply Pv.wN|apply Pv.rR|apply Pv.aE rfl
 |exact Pv.AJ|exact Pv.pL|exact Pv.gi|exact Pv.rF|exact Pv.lQ|exact Pv.AK|exact Pv.Q8
 | (with_reducible assumption)|exact Pv.cj|exact Pv.jf|exact Pv.tK|exact Pv.gE|exact Pv.qA|exact Pv.GW|exact Pv.EO  | exact Pv.tL
 | (show Pv.truthy _=_;rfl) | (show Pv.eX _ _=some _;rfl) | (show Pv.toT _=some _;rfl) | (show Pv.m9 _ _=some _;rfl) | (show Pv.fP _=some _;rfl)|assumption)
namespace Pv
open Ev (D bS bM TY BI ME T E Es Eo It S Ss Fn big deep b2i rep cC eK bE aT cut cR ef slots)
def Oq(a b:Int):cC (a % 2147483563) b=true:=by have c:=abF a (b:=2147483563) (by decide);have d:=abj a (b:=2147483563) (by decide);simp[cC];omega
def U8(a b:Int):cC (a % 2147483399) b=true:=by have c:=abF a (b:=2147483399) (by decide);have d:=abj a (b:=2147483399) (by decide);simp[cC];omega
def Ot{l:List V}{j:Int}{v:V}(h:bE l j=some v):eX (.bT l) (.int j)=some v:=h
def Ou{l m:List V}:cop .eq (.bT l) (.lst m)=cG (cW (18+1)) l m:=rfl
def ER{F:List Fn}{w n c:Nat}(hc:F[c]?=some rN){ns:List Int}(hn:ns.length<=63)(k:Int):run F w (n+1) c [.val (dW ns),.val (.int k)]=some (.int (u0 ns k),[]):=by
 refine bX hc rfl (ai (aL (b:=decide (ns=[])) (aE rfl (bI (aB rfl) (jz aD lQ) (Ou.trans (JY ns))) rfl) (λh=>?_) λh=>az ?_))
 .have d:=aag h;exact ai (bN (aU (aR rfl) (aB rfl) (jV rfl)) ⟨by rw[u0,xC d],rfl⟩)
 .have d:=aaO h;have a:0<ns.length:=List.length_pos_iff.mpr d;have Su:(0:Int)<(ns.map V.int).length:=by rw[aaa];exact Int.natCast_pos.mpr a
  have e:((ns.map V.int).length:Int)<1073741824:=by rw[aaa];omega
  have f:=abF k (b:=(ns.length:Int)) (by omega);have g:(k % (ns.length:Int)).toNat<ns.length:=by have:=abj k (b:=(ns.length:Int)) (by omega);omega
  have i:bE (ns.map V.int) (k % ((ns.map V.int).length:Int))=some (.int (ns[(k % (ns.length:Int)).toNat]?.getD 0)):=by
   rw[aaa,wK f,Z7,Rx g];rfl
  refine ai (bN (aU (dN (aB rfl) (aU (aB rfl) (gM (av (aB rfl) aD) zg) (pN Su)) (Ot i)) (aU (aR rfl) (aU (aB rfl) (gM (av (aB rfl) aD) zg) (u7 Su e)) (jV rfl)) cj) ⟨?_,rfl⟩);rw[u0,ZS d,aaa]
def eY{F:List Fn}{w n c dr:Nat}(hc:F[c]?=some rN)(hd:F[dr]?=some (rO c)){ns:List Int}(hn:ns.length<=63)(k:Int){many:Int}(hm:0<many):run F w (n+2) dr [.val (dW ns),.val (.int k),.val (.int many)]=some (.int (cO ns k many),[]):=by
 refine bX hd rfl (ai (bD (aU (aU (aU (aU (cZ (aX rfl (aB rfl) (aX rfl (aB rfl) aJ)) (call2 (ER hc hn k))) (aR rfl) (pN (by decide))) (aR rfl) (jV (Oq _ _))) (aU (aR rfl) (aU (aB rfl) (aR rfl) cj) (jV rfl)) cj) (aR rfl) (pN (by decide))) rfl rfl ?_));refine ai (bD (aU (aU (aU (aB rfl) (aB rfl) (jV (Oq _ _))) (aU (aB rfl) (aR rfl) (u7 (by decide) (by decide))) cj) (aR rfl) (pN (by decide))) rfl rfl ?_);exact ai (bN (aU (aU (aU (aU (aU (aB rfl) (aB rfl) (jV (U8 _ _))) (aU (aB rfl) (aR rfl) (u7 (by decide) (by decide))) cj) (aR rfl) (pN (by decide))) (aR rfl) (u7 (by decide) (by decide))) (aB rfl) (pN hm)) ⟨rfl,rfl⟩)
noncomputable def fText(dr:Nat):Fn:=⟨3,4,(.cons (.ret (.me .join (.c (.str [])) (.cons (.comp (.ix (.c (.str [97,98,99,32])) (.cl dr (.cons (.v 0) (.cons (.bin .add (.bin .add (.v 1) (.c (.int 1))) (.v 3)) (.cons (.c (.int 4)) .nil))))) (.one 3) (.fh (.cons (.cl dr (.cons (.v 0) (.cons (.v 1) (.cons (.bin .add (.v 2) (.c (.int 1))) .nil)))) .nil)) .no) .nil))) .nil)⟩
noncomputable def GX(dr:Nat):S:=.iff (.cmp .eq (.cl dr (.cons (.v 0) (.cons (.bin .add (.v 1) (.bin .mul (.c (.int 4)) (.v 4))) (.cons (.c (.int 4)) .nil)))) (.c (.int 0))) (.cons (.set 5 (.bin .mul (.ix (.c (.str [97,98,122])) (.cl dr (.cons (.v 0) (.cons (.bin .add (.bin .add (.v 1) (.bin .mul (.c (.int 4)) (.v 4))) (.c (.int 1))) (.cons (.c (.int 3)) .nil))))) (.bin .add (.c (.int 1)) (.cl dr (.cons (.v 0) (.cons (.bin .add (.bin .add (.v 1) (.bin .mul (.c (.int 4)) (.v 4))) (.c (.int 2))) (.cons (.c (.int 2)) .nil))))))) (.cons (.set 3 (.bin .add (.v 3) (.tup (.cons (.tup (.cons (.c (.str [112,117,116])) (.cons (.v 5) .nil))) .nil)))) .nil)) .nil
noncomputable def GY(dr:Nat):S:=.iff (.cmp .lt (.v 4) (.bi .len (.cons (.v 2) .nil))) (.cons (.set 6 (.cmp .gt (.cl dr (.cons (.v 0) (.cons (.bin .add (.bin .add (.v 1) (.bin .mul (.c (.int 4)) (.v 4))) (.c (.int 3))) (.cons (.c (.int 3)) .nil)))) (.c (.int 0)))) (.cons (.set 3 (.bin .add (.v 3) (.tup (.cons (.fS (.v 6) (.tup (.cons (.c (.str [107,101,101,112])) (.cons (.c (.int 1)) .nil))) (.tup (.cons (.c (.str [100,114,111,112])) (.cons (.ix (.v 2) (.v 4)) .nil)))) .nil)))) .nil)) .nil
noncomputable def zv(dr:Nat):Fn:=⟨3,7,(.cons (.set 3 (.tup .nil)) (.cons (.for (.one 4) (.fh (.cons (.bin .add (.bi .len (.cons (.v 2) .nil)) (.c (.int 1))) .nil)) (.cons (GX dr) (.cons (GY dr) .nil))) (.cons (.ret (.v 3)) .nil)))⟩
inductive Pt where
 |keep (n:Nat)|put (s:List Nat)|drop (s:List Nat)
deriving DecidableEq
noncomputable def eB:List Nat:=[107,101,101,112]
noncomputable def nD:List Nat:=[112,117,116]
noncomputable def jW:List Nat:=[100,114,111,112]
noncomputable def Pt.v:Pt->V
 |.keep n=>.tup [.str eB,.int n]
 |.put s=>.tup [.str nD,.str s]
 |.drop s=>.tup [.str jW,.str s]
noncomputable def bf(c:List Pt):V:=.tup (c.map Pt.v)
def CW(n:Nat)(a b:Pt):cW (n+2) a.v b.v=some (decide (a=b)):=by
 cases a<;>cases b<;>simp[Pt.v,eB,nD,jW]
 all_goals omega
noncomputable def txt(ns:List Int)(at_ most:Int):List Nat:=(List.range (cO ns at_ (most+1)).toNat).map λ(k:Nat)=>[97,98,99,32].getD (cO ns (at_+1+k) 4).toNat 0
def JZ(ns:List Int)(at_:Int){most:Int}(h:0<=most):(txt ns at_ most).length<=most.toNat:=by
 unfold txt;have a:=kQ ns at_ (many:=most+1) (by omega);have b:=kP ns at_ (many:=most+1) (by omega);simp;omega
def getD_at{α:Type}{l:List α}{i:Int}(h0:0<=i)(h1:i<l.length)(d:α):bE l i=some (l.getD i.toNat d):=by
 have:i.toNat<l.length:=by omega
 rw[wK h0];simp[List.getD,Rx this]
def qh{α β:Type}(l:List α)(f:α->β):(l.map λx=>[f x]).flatten=l.map f:=by induction l<;>simp[*]
def CY(lo:Int)(n:Nat):range lo n=(List.range n).map λ(i:Nat)=>V.int (lo+i):=rfl
section
variable{F:List Fn}{w n c dr t:Nat}(hc:F[c]?=some rN)(hd:F[dr]?=some (rO c)){ns:List Int}(hn:ns.length<=63)
include hc hd hn
theorem ES(ht:F[t]?=some (fText dr))(k most:Int)(hm:0<=most)(hm2:most<=1000):run F w (n+3) t [.val (dW ns),.val (.int k),.val (.int most)]=some (.str (txt ns k most),[]):=by
 have b:=kP ns k (many:=most+1) (by omega);have g:=kQ ns k (many:=most+1) (by omega);have d:=λfr=>gj (fr:=fr) (eY (w:=w) (n:=n) hc hd hn k (many:=most+1) (by omega));have Ro:cX (nB (run F w (n+2)) (.ix (.c (.str [97,98,99,32])) (.cl dr (.cons (.v 0) (.cons (.bin .add (.bin .add (.v 1) (.c (.int 1))) (.v 3)) (.cons (.c (.int 4)) .nil))))) (.one 3) .no [some (.val (dW ns)),some (.val (.int k)),some (.val (.int most)),none]) (range 0 (cO ns k (most+1)).toNat)=some (((List.range (cO ns k (most+1)).toNat).map λ(j:Nat)=>[[97,98,99,32].getD (cO ns (k+1+j) 4).toNat 0]).map V.str):=by
  rw[CY,abD];refine CQ _ _ _ λj _=>?_;have e:=λfr=>gj (fr:=fr) (eY (w:=w) (n:=n) hc hd hn (k+1+j) (many:=4) (by decide));have h:eX (.str [97,98,99,32]) (.int (cO ns (k+1+j) 4))=some (.str [[97,98,99,32].getD (cO ns (k+1+j) 4).toNat 0]):=by
   rw[tF,getD_at (l:=[97,98,99,32]) (kP ns (k+1+j) (many:=4) (by decide)) (kQ ns (k+1+j) (many:=4) (by decide)) 0];rfl
  rw[show(0:Int)+(j:Int)=j from acF _];exact Ol rfl (by (repeat (first|array_get_dec|exact e _)))
 have a:=GQ (l:=(List.range (cO ns k (most+1)).toNat).map λ(j:Nat)=>[[97,98,99,32].getD (cO ns (k+1+j) 4).toNat 0]) (by rw[qh];simp;omega);rw[qh]at a;have WO:fq (((List.range (cO ns k (most+1)).toNat).map λ(j:Nat)=>[[97,98,99,32].getD (cO ns (k+1+j) 4).toNat 0]).map V.str)=some (.lst _):=gT (cL (by simp;omega));have f:=NQ b (show cO ns k (most+1)<=100000 by omega);refine bX ht rfl (ai (bN (GV rfl (aR rfl) (av (wL (iU (by (repeat (first|array_get_dec|exact d _))) f) rfl Ro WO) aD) a) ⟨rfl,rfl⟩))
end
noncomputable def jX(ns:List Int)(at_:Int)(s:List Nat)(k:Nat):List Pt:=
 (if cO ns (at_+4*k) 4=0 then [.put (rep (1+cO ns (at_+4*k+2) 2).toNat [[97,98,122].getD (cO ns (at_+4*k+1) 3).toNat 0])]else [])++
 (match s[k]? with
 |some c=>[if 0<cO ns (at_+4*k+3) 3 then .keep 1 else .drop [c]]
 |none=>[])
noncomputable def fQ(ns:List Int)(at_:Int)(s:List Nat)(k:Nat):List Pt:=(List.range k).flatMap (jX ns at_ s)
noncomputable def chg(ns:List Int)(at_:Int)(s:List Nat):List Pt:=fQ ns at_ s (s.length+1)
def CZ(ns:List Int)(at_:Int)(s:List Nat)(k:Nat):(jX ns at_ s k).length<=2:=by
 unfold jX;split<;>split<;>simp
def jY(ns:List Int)(at_:Int)(s:List Nat)(k:Nat):fQ ns at_ s (k+1)=fQ ns at_ s k++jX ns at_ s k:=by simp[fQ,aat]
theorem oW(ns:List Int)(at_:Int)(s:List Nat):∀k,(fQ ns at_ s k).length<=2*k
 |0=>by simp[fQ]
 |k+1=>by
  have a:=CZ ns at_ s k;have b:=oW ns at_ s k;rw[jY,ZX];omega
def Ov(i:Int):cC 4 i=true:=by simp[cC]
def AS{a b:List Pt}(h:a.length+b.length<=100000):bP .add (bf a) (bf b)=some (bf (a++b)):=by
 simp only[bf];rw[qy (by simpa using h)];simp
def wO{j:Int}{n:Nat}(h:n<=100000)(e:j=n):dw [.int j]=some (range 0 n):=by
 subst e;rw[NQ (by omega) (by omega)];rfl
def J0{a:List Pt}{s:List Nat}(h:a.length<100000):bP .add (bf a) (.tup [.tup [.str [112,117,116],.str s]])=some (bf (a++[.put s])):=AS (a:=a) (b:=[.put s]) (by simp;omega)
def ET{a:List Pt}{s:List Nat}(h:a.length<100000):bP .add (bf a) (.tup [.tup [.str [100,114,111,112],.str s]])=some (bf (a++[.drop s])):=AS (a:=a) (b:=[.drop s]) (by simp;omega)
def EU{a:List Pt}(h:a.length<100000):bP .add (bf a) (.tup [.tup [.str [107,101,101,112],.int 1]])=some (bf (a++[.keep 1])):=AS (a:=a) (b:=[.keep 1]) (by simp;omega)
section
variable{F:List Fn}{w n c dr t:Nat}(hc:F[c]?=some rN)(hd:F[dr]?=some (rO c)){ns:List Int}(hn:ns.length<=63)
include hc hd hn
theorem EV(k:Int)(x:V)(fd:List Pt)(j:Nat)(u v:Option Sl)(hu:vo u)(hfd:fd.length<=10000) :
  Wp (ex (run F w (n+2)) w (GX dr) [some (.val (dW ns)),some (.val (.int k)),some (.val x),some (.val (bf fd)),some (.val (.int j)),u,v]) λg fr=>g=.nx/\∃b,vo b/\fr=[some (.val (dW ns)),some (.val (.int k)),some (.val x),some (.val (bf (fd++if cO ns (k+4*j) 4=0 then [.put (rep (1+cO ns (k+4*j+2) 2).toNat [[97,98,122].getD (cO ns (k+4*j+1) 3).toNat 0])]else []))),some (.val (.int j)),b,v]:=by
 have e:=λfr=>gj (fr:=fr) (eY (w:=w) (n:=n) hc hd hn (k+4*j) (many:=4) (by decide));have o:bP .mul (.int 4) (.int j)=some (.int (4*j)):=by rw[qz,Ov];rfl
 refine aL (by (repeat (first|array_get_dec|exact e _))) (λh=>?_) λh=>?_
 .have d:=aag h;have f:=λfr=>gj (fr:=fr) (eY (w:=w) (n:=n) hc hd hn (k+4*j+1) (many:=3) (by decide));have i:=λfr=>gj (fr:=fr) (eY (w:=w) (n:=n) hc hd hn (k+4*j+2) (many:=2) (by decide));have p:=kP ns (k+4*j+2) (many:=2) (by decide);have q:=kQ ns (k+4*j+2) (many:=2) (by decide);have r:eX (.str [97,98,122]) (.int (cO ns (k+4*j+1) 3))=some (.str [[97,98,122].getD (cO ns (k+4*j+1) 3).toNat 0]):=by
   rw[tF,getD_at (l:=[97,98,122]) (kP ns (k+4*j+1) (many:=3) (by decide)) (kQ ns (k+4*j+1) (many:=3) (by decide)) 0];rfl
  have y:=EI (j:=1+cO ns (k+4*j+2) 2) (a:=[[97,98,122].getD (cO ns (k+4*j+1) 3).toNat 0]) (by omega) (by omega) (by simp);have z:=J0 (a:=fd) (s:=rep (1+cO ns (k+4*j+2) 2).toNat [[97,98,122].getD (cO ns (k+4*j+1) 3).toNat 0]) (by omega);refine ai (bD (by (repeat (first|array_get_dec|exact f _|exact i _))) rfl (kT rfl hu) ?_);refine ai (bD (by repeat array_get_dec) rfl rfl (az ?_));rw[xC d];exact⟨rfl,_,.val,rfl⟩
 .have d:=aaO h;rw[ZS d,aaf];exact az ⟨rfl,u,hu,rfl⟩
theorem EW(k:Int)(x:List Nat)(hx:x.length<=1000)(fd:List Pt)(j:Nat)(u v:Option Sl)(hv:vo v)(hfd:fd.length<=10000) :
  Wp (ex (run F w (n+2)) w (GY dr) [some (.val (dW ns)),some (.val (.int k)),some (.val (.str x)),some (.val (bf fd)),some (.val (.int j)),u,v]) λg fr=>g=.nx/\∃b,vo b/\fr=[some (.val (dW ns)),some (.val (.int k)),some (.val (.str x)),some (.val (bf (fd++match x[j]? with
     |some c=>[if 0<cO ns (k+4*j+3) 3 then .keep 1 else .drop [c]]
     |none=>[]))),some (.val (.int j)),u,b]:=by
 have p:dS .len [.str x]=some (.int (x.length:Nat)):=abC (by omega);refine aL (by repeat array_get_dec) (λh=>?_) λh=>?_
 .have d:j<x.length:=by have:=aag h;omega
  have o:=λfr=>gj (fr:=fr) (eY (w:=w) (n:=n) hc hd hn (k+4*j+3) (many:=3) (by decide));have q:bP .mul (.int 4) (.int j)=some (.int (4*j)):=by rw[qz,Ov];rfl
  have l:x[j]?=some x[j]:=Rx d;have r:eX (.str x) (.int j)=some (.str [x[j]]):=by rw[tF,o9,l];rfl
  rw[l];refine ai (bD (by (repeat (first|array_get_dec|exact o _))) rfl (kT rfl hv) ?_);by_cases e:0<cO ns (k+4*j+3) 3
  .have f:=EU (a:=fd) (by omega);have i:truthy (.bl (decide (0<cO ns (k+4*j+3) 3)))=true:=aae e;refine ai (bD (aU (aB rfl) (cY (av (jU (b:=true) (aE rfl (aB rfl) i) (λ_=>by repeat array_get_dec) λh=>absurd h (by decide)) aD) pL) f) rfl rfl (az ?_));refine⟨rfl,some (.val (.bl (decide (0<cO ns (k+4*j+3) 3)))),.val,?_⟩;simp only[xC e];rfl
  .have f:=ET (a:=fd) (s:=[x[j]]) (by omega);have i:truthy (.bl (decide (0<cO ns (k+4*j+3) 3)))=false:=Z6 e;refine ai (bD (aU (aB rfl) (cY (av (jU (b:=false) (aE rfl (aB rfl) i) (zb ·) λ_=>by repeat array_get_dec) aD) pL) f) rfl rfl (az ?_));refine⟨rfl,some (.val (.bl (decide (0<cO ns (k+4*j+3) 3)))),.val,?_⟩;simp only[ZS e];rfl
 .have d:¬ j<x.length:=by have:=aaO h;omega
  rw[aac (by omega),aaf];exact az ⟨rfl,v,hv,rfl⟩
theorem AU(ht:F[t]?=some (zv dr))(k:Int)(x:List Nat)(hx:x.length<=1000):run F w (n+3) t [.val (dW ns),.val (.int k),.val (.str x)]=some (bf (chg ns k x),[]):=by
 refine bX ht rfl ?_;have y:dS .len [.str x]=some (.int (x.length:Nat)):=abC (by omega);have z:dw [.int ((x.length:Nat)+1)]=some (range 0 (x.length+1)):=wO (by omega) (by omega);refine ai (bD (by repeat array_get_dec) rfl rfl ?_);refine ai (gY (iU (av (aU (gM (av (aB rfl) aD) y) (aR rfl) cj) aD) z) ?_);refine jh (λj h=>∃a b c,vo a/\vo b/\vo c/\h=[some (.val (dW ns)),some (.val (.int k)),some (.val (.str x)),some (.val (bf (fQ ns k x j))),a,b,c]) (λj h C ⟨a,b,d,i,l,e,f⟩=>?_) (λh ⟨a,b,d,i,l,e,f⟩=>?_) ⟨none,none,none,.none,.none,.none,rfl⟩
 .subst f;have G:=oW ns k x j;rw[show(0:Int)+(j:Int)=j from acF _];refine dh (bind1 rfl i) (ai ?_);refine(EV hc hd hn k (.str x) (fQ ns k x j) j b d l (by omega)).mono λg h ⟨o,r,p,q⟩=>?_;subst o q;refine ai ?_;refine(EW hc hd hn k x hx _ j r d e (by split<;>simp<;>omega)).mono λg h ⟨o,A,WQ,q⟩=>?_;subst o q;refine az ?_;rw[dB];refine⟨some (.val (.int j)),r,A,.val,p,WQ,?_⟩;rw[jY,jX,aap]
 .subst f;refine ai (bN (v:=bf (chg ns k x)) (af:=[some (.val (dW ns)),some (.val (.int k)),some (.val (.str x)),some (.val (bf (fQ ns k x (x.length+1)))),a,b,d]) ?_ ⟨rfl,rfl⟩);have B:gh [some (.val (dW ns)),some (.val (.int k)),some (.val (.str x)),some (.val (bf (fQ ns k x (x.length+1)))),a,b,d]=[some (.val (dW ns)),some (.val (.int k)),some (.val (.str x)),some (.val (bf (fQ ns k x (x.length+1)))),a,b,d]:=by
   show _ :: _ :: _ :: _ :: a.map Sl.eZ :: b.map Sl.eZ :: [d.map Sl.eZ]=_;rw[dR i,dR l,dR e];rfl
  rw[B];exact aB rfl
end
noncomputable def fE:Fn:=⟨1,1,(.cons (.iff (.cmp .eq (.ix (.v 0) (.c (.int 0))) (.c (.str [107,101,101,112]))) (.cons (.ret (.ix (.v 0) (.c (.int 1)))) .nil) .nil) (.cons (.ret (.bi .len (.cons (.ix (.v 0) (.c (.int 1))) .nil))) .nil))⟩
noncomputable def kU(eS:Nat):Fn:=⟨1,2,(.cons (.ret (.bi .sum (.cons (.comp (.cl eS (.cons (.v 1) .nil)) (.one 1) (.seq (.v 0)) (.yes (.cmp .ne (.ix (.v 1) (.c (.int 0))) (.c (.str [112,117,116]))))) .nil))) .nil)⟩
noncomputable def mU(eS:Nat):Fn:=⟨1,2,(.cons (.ret (.bi .sum (.cons (.comp (.cl eS (.cons (.v 1) .nil)) (.one 1) (.seq (.v 0)) (.yes (.cmp .ne (.ix (.v 1) (.c (.int 0))) (.c (.str [100,114,111,112]))))) .nil))) .nil)⟩
noncomputable def C0(eS:Nat):Fn:=⟨1,2,(.cons (.ret (.bi .sum (.cons (.comp (.cl eS (.cons (.v 1) .nil)) (.one 1) (.seq (.v 0)) (.yes (.cmp .ne (.ix (.v 1) (.c (.int 0))) (.c (.str [107,101,101,112]))))) .nil))) .nil)⟩
noncomputable def mV(uE:Nat):Fn:=⟨1,7,(.cons (.set 1 (.lst .nil)) (.cons (.set 2 (.c (.int 0))) (.cons (.set 3 (.c (.str []))) (.cons (.set 4 (.c (.str []))) (.cons (.for (.many [5,6]) (.seq (.v 0)) (.cons (.iff (.cmp .eq (.v 5) (.c (.str [100,114,111,112]))) (.cons (.set 3 (.bin .add (.v 3) (.v 6))) .nil) (.cons (.iff (.cmp .eq (.v 5) (.c (.str [112,117,116]))) (.cons (.set 4 (.bin .add (.v 4) (.v 6))) .nil) (.cons (.iff (.cmp .gt (.v 6) (.c (.int 0))) (.cons (.iff (.orr (.cmp .ne (.v 3) (.c (.str []))) (.cmp .ne (.v 4) (.c (.str [])))) (.cons (.exp (.me .extend (.v 1) (.cons (.cl uE (.cons (.v 2) (.cons (.v 3) (.cons (.v 4) .nil)))) .nil))) (.cons (.set 2 (.c (.int 0))) (.cons (.set 3 (.c (.str []))) (.cons (.set 4 (.c (.str []))) .nil)))) .nil) (.cons (.set 2 (.bin .add (.v 2) (.v 6))) .nil)) .nil) .nil)) .nil)) .nil)) (.cons (.exp (.me .extend (.v 1) (.cons (.cl uE (.cons (.v 2) (.cons (.v 3) (.cons (.v 4) .nil)))) .nil))) (.cons (.ret (.iY (.v 1))) .nil)))))))⟩
noncomputable def qi:S:=.iff (.cmp .ne (.v 1) (.c (.str []))) (.cons (.exp (.me .append (.v 3) (.cons (.tup (.cons (.c (.str [100,114,111,112])) (.cons (.v 1) .nil))) .nil))) .nil) .nil
noncomputable def mj:S:=.iff (.cmp .ne (.v 2) (.c (.str []))) (.cons (.exp (.me .append (.v 3) (.cons (.tup (.cons (.c (.str [112,117,116])) (.cons (.v 2) .nil))) .nil))) .nil) .nil
noncomputable def jB:S:=.ret (.v 3)
noncomputable def gn:Fn:=⟨3,4,(.cons (.set 3 (.lst .nil)) (.cons (.iff (.cmp .gt (.v 0) (.c (.int 0))) (.cons (.exp (.me .append (.v 3) (.cons (.tup (.cons (.c (.str [107,101,101,112])) (.cons (.v 0) .nil))) .nil))) .nil) .nil) (.cons qi (.cons mj (.cons jB .nil)))))⟩
noncomputable def Pt.n:Pt->Nat
 |.keep n=>n
 |.put s=>s.length
 |.drop s=>s.length
noncomputable def tot(c:List Pt):Nat:=(c.map Pt.n).sum
def fF(a b:List Pt):tot (a++b)=tot a+tot b:=by simp[tot]
def cE(p:Pt)(c:List Pt):tot (p :: c)=p.n+tot c:=by simp[tot]
noncomputable def iW:Pt->Bool
 |.put _=>true
 |_=>false
noncomputable def dX:Pt->Bool
 |.drop _=>true
 |_=>false
noncomputable def fG:Pt->Bool
 |.keep _=>true
 |_=>false
noncomputable def bu(c:List Pt):Nat:=tot (c.filter λp=>!iW p)
noncomputable def gH(c:List Pt):Nat:=tot (c.filter λp=>!dX p)
noncomputable def cst(c:List Pt):Nat:=tot (c.filter λp=>!fG p)
section
variable{F:List Fn}{w n aN i:Nat}
def kW(hs:F[i]?=some fE)(p:Pt)(hp:p.n<=100000):run F w (n+1) i [.val p.v]=some (.int p.n,[]):=by
 cases p with
 |keep k=>exact bX hs rfl (ai (aL (b:=true) (aE rfl (bI (dN (aB rfl) (aR rfl) rfl) (aR rfl) tK) rfl) (λ_=>ai (bN (dN (aB rfl) (aR rfl) rfl) ⟨rfl,rfl⟩)) nofun))
 |put s=>exact bX hs rfl (ai (aL (b:=false) (aE rfl (bI (dN (aB rfl) (aR rfl) rfl) (aR rfl) tK) rfl) nofun (λ_=>az (ai (bN (gM (av (dN (aB rfl) (aR rfl) rfl) aD) (abC hp)) ⟨rfl,rfl⟩)))))
 |drop s=>exact bX hs rfl (ai (aL (b:=false) (aE rfl (bI (dN (aB rfl) (aR rfl) rfl) (aR rfl) tK) rfl) nofun (λ_=>az (ai (bN (gM (av (dN (aB rfl) (aR rfl) rfl) aD) (abC hp)) ⟨rfl,rfl⟩)))))
def U9{c:List Pt}{p:Pt}(h:p∈c):p.n<=tot c:=by
 induction c with
 |nil=>simp at h
 |cons q c a=>
  rw[cE];rcases List.mem_cons.mp h with rfl|h
  .omega
  .have:=a h;omega
def Rp(c:List Pt):(c.map λp=>(p.n:Int)).sum=(tot c:Int):=by
 induction c with
 |nil=>rfl
 |cons p c a=>simp only[ZT,List.sum_cons,a,cE];omega
def tM{word:List Nat}{pr:Pt->Bool}(hs:F[aN]?=some fE)(hb:F[i]?=some ⟨1,2,.cons (.ret (.bi .sum (.cons (.comp (.cl aN (.cons (.v 1) .nil)) (.one 1) (.seq (.v 0)) (.yes (.cmp .ne (.ix (.v 1) (.c (.int 0))) (.c (.str word))))) .nil))) .nil⟩)
  (hw:∀p:Pt,∃x u,p.v=.tup [.str x,u]/\(!decide (x=word))=pr p) (c:List Pt) (h1:c.length<=10000) (h2:tot c<=100000):run F w (n+2) i [.val (bf c)]=some (.int (tot (c.filter pr)),[]):=by
 refine bX hb rfl (ai (bN (gM (av (wL (kR (kg rfl) rfl) rfl (oU (e:=Pt.v) (p:=pr) (g:=λp=>.int p.n) c λp d=>?_) (gT (cL ?_))) aD) ?_) ⟨rfl,rfl⟩))
 .obtain⟨x,u,b,WR⟩:=hw p;have a:=λfr=>gD (fr:=fr) (kW (w:=w) (n:=n) hs p (Z2 (U9 d) h2));rw[b]at a;rw[b,<-WR];exact zq rfl (aE rfl (bI (dN (aB rfl) (aR rfl) rfl) (aR rfl) gE) rfl) λ_=>cZ (aX rfl (aB rfl) aJ) (a _)
 .rw[aaa];exact Z2 (List.length_filter_le _ _) (Z2 h1 (by decide))
 .rw[JD,AL (λp:Pt=>(p.n:Int))];show some (V.int _)=_;rw[Rp]
def AV(hs:F[aN]?=some fE)(hb:F[i]?=some (kU aN))(c:List Pt)(h1:c.length<=10000)(h2:tot c<=100000):run F w (n+2) i [.val (bf c)]=some (.int (bu c),[]):=
 tM (pr:=λp=>!iW p) hs hb (λp=>by cases p<;>exact⟨_,_,rfl,rfl⟩) c h1 h2
def C1(hs:F[aN]?=some fE)(hb:F[i]?=some (mU aN))(c:List Pt)(h1:c.length<=10000)(h2:tot c<=100000):run F w (n+2) i [.val (bf c)]=some (.int (gH c),[]):=
 tM (pr:=λp=>!dX p) hs hb (λp=>by cases p<;>exact⟨_,_,rfl,rfl⟩) c h1 h2
def EX(hs:F[aN]?=some fE)(hb:F[i]?=some (C0 aN))(c:List Pt)(h1:c.length<=10000)(h2:tot c<=100000):run F w (n+2) i [.val (bf c)]=some (.int (cst c),[]):=
 tM (pr:=λp=>!fG p) hs hb (λp=>by cases p<;>exact⟨_,_,rfl,rfl⟩) c h1 h2
end
noncomputable def cy(k:Nat)(g w:List Nat):List Pt:=(if 0<k then [.keep k]else [])++(if g=[]then []else [.drop g])++(if w=[]then []else [.put w])
def mw(k:Nat)(g w:List Nat):(cy k g w).length<=3:=by unfold cy;split<;>split<;>split<;>simp
def qj{F:List Fn}{w n i:Nat}(hs:F[i]?=some gn)(k:Nat)(g x:List Nat):run F w (n+1) i [.val (.int k),.val (.str g),.val (.str x)]=some (.lst ((cy k g x).map Pt.v),[]):=by
 refine bX hs rfl ?_;refine ai (iV (l:=[]) (by repeat array_get_dec) rfl rfl ?_);have c:∀(l:List V) (d:V) (a:Fr) (i:Nat),l.length<=3->a[i]?=some (some (.own l))->gU .append i [d] a a[i]?=.ok .aV (a.set i (some (.own (l++[d])))):=λl d a i h e=>by rw[e];exact j9 (by omega)
 have fin:∀l:List V,Wp (exs (run F w n) w (.cons jB .nil) [some (.val (.int k)),some (.val (.str g)),some (.val (.str x)),some (.own l)]) λg a=>g=.ret (.lst l)/\outs 3 a=[]:=λl=>ai (bN (by repeat array_get_dec) ⟨rfl,rfl⟩);have s3:∀l:List V,l.length<=2->Wp (exs (run F w n) w (.cons mj (.cons jB .nil)) [some (.val (.int k)),some (.val (.str g)),some (.val (.str x)),some (.own l)]) λg a=>g=.ret (.lst (l++(if x=[]then []else [Pt.put x]).map Pt.v))/\outs 3 a=[]:=λl f=>by
  refine ai (aL (by repeat array_get_dec) (λh=>?_) λh=>?_)
  .have b:x≠[]:=by simpa using h
   refine ai (cS (by (repeat array_get_dec);exact c _ _ _ _ (by omega) rfl) (az ?_));rw[ZS b];exact fin _
  .have b:x=[]:=by simpa using h
   refine az ?_;rw[xC b,abW,aaf];exact fin _
 have s2:∀l:List V,l.length<=1->Wp (exs (run F w n) w (.cons qi (.cons mj (.cons jB .nil))) [some (.val (.int k)),some (.val (.str g)),some (.val (.str x)),some (.own l)]) λy a=>y=.ret (.lst (l++((if g=[]then []else [Pt.drop g])++(if x=[]then []else [Pt.put x])).map Pt.v))/\outs 3 a=[]:=λl f=>by
  refine ai (aL (by repeat array_get_dec) (λh=>?_) λh=>?_)
  .have b:g≠[]:=by simpa using h
   refine ai (cS (by (repeat array_get_dec);exact c _ _ _ _ (by omega) rfl) (az ?_));rw[ZS b,ZZ,<-aap];exact s3 _ (by simp;omega)
  .have b:g=[]:=by simpa using h
   refine az ?_;rw[xC b,ab9];exact s3 _ (by omega)
 refine ai (aL (by repeat array_get_dec) (λh=>?_) λh=>?_)
 .have b:0<k:=by have:=aag h;omega
  refine ai (cS (by (repeat array_get_dec);exact c _ _ _ _ (by decide) rfl) (az ?_));unfold cy;rw[xC b,aap];exact s2 _ (ZO 1)
 .have b:¬ 0<k:=by have:=aaO h;omega
  refine az ?_;unfold cy;rw[ZS b];exact s2 _ (by decide)
abbrev FS:=List Pt×Nat×List Nat×List Nat
noncomputable def bL(st:FS):Pt->FS
 |.drop s=>(st.1,st.2.1,st.2.2.1++s,st.2.2.2)
 |.put s=>(st.1,st.2.1,st.2.2.1,st.2.2.2++s)
 |.keep k=>if 0<k then (if st.2.2.1=[]/\st.2.2.2=[]then (st.1,st.2.1+k,[],[])else (st.1++cy st.2.1 st.2.2.1 st.2.2.2,k,[],[]))else st
noncomputable def fJ:FS:=([],0,[],[])
noncomputable def dD(st:FS):List Pt:=st.1++cy st.2.1 st.2.2.1 st.2.2.2
noncomputable def aW(c:List Pt):List Pt:=dD (c.foldl bL fJ)
def J1(p:List Pt)(a:Pt):(p++[a]).foldl bL fJ=bL (p.foldl bL fJ) a:=by simp
def wQ(c:List Pt):∀st:FS,(c.foldl bL st).1.length<=st.1.length+3*c.length/\(c.foldl bL st).2.2.1.length<=st.2.2.1.length+tot c/\(c.foldl bL st).2.2.2.length<=st.2.2.2.length+tot c:=by
 induction c with
 |nil=>intro st;simp[tot]
 |cons p c a=>
  intro st;have h:=a (bL st p);have b:(bL st p).1.length<=st.1.length+3/\(bL st p).2.2.1.length<=st.2.2.1.length+p.n/\(bL st p).2.2.2.length<=st.2.2.2.length+p.n:=by
   have:=mw st.2.1 st.2.2.1 st.2.2.2;cases p with
   |drop s=>simp[bL,Pt.n]
   |put s=>simp[bL,Pt.n]
   |keep k=>
    simp only[bL];split
    .split
     .simp
     .simp;omega
    .simp
  simp only[aan,ZU,cE];omega
def nE{F:List Fn}{w n bU i:Nat}(hs:F[bU]?=some gn)(hf:F[i]?=some (mV bU))(c:List Pt)(h1:c.length<=10000)(h2:tot c<=10000):run F w (n+2) i [.val (bf c)]=some (bf (aW c),[]):=by
 refine bX hf rfl ?_;refine ai (iV (l:=[]) (by repeat array_get_dec) rfl rfl ?_);refine ai (bD (by repeat array_get_dec) rfl rfl ?_);refine ai (bD (by repeat array_get_dec) rfl rfl ?_);refine ai (bD (by repeat array_get_dec) rfl rfl ?_);refine ai (gY (vs:=c.map Pt.v) (kR (kg rfl) rfl) ?_);have ext:∀(d:FS) (fr:Fr),d.1.length<=30010->gU .extend 1 [.lst ((cy d.2.1 d.2.2.1 d.2.2.2).map Pt.v)] fr (some (some (.own (d.1.map Pt.v))))=.ok .aV (fr.set 1 (some (.own ((dD d).map Pt.v)))):=λd fr h=>by
  have:=mw d.2.1 d.2.2.1 d.2.2.2;unfold dD;rw[ZZ];exact zo (by simp;omega)
 refine iA (e:=Pt.v) (λp l fr=>p++l=c/\∃a b,vo a/\vo b/\fr=[some (.val (bf c)),some (.own ((p.foldl bL fJ).1.map Pt.v)),some (.val (.int (p.foldl bL fJ).2.1)),some (.val (.str (p.foldl bL fJ).2.2.1)),some (.val (.str (p.foldl bL fJ).2.2.2)),a,b]) (λp x l fr ⟨f,a,b,q,r,g⟩=>?_) (λp fr ⟨f,a,b,q,r,g⟩=>?_) c [] _ ⟨rfl,none,none,.none,.none,rfl⟩
 .subst g;obtain⟨A,B,C⟩:=wQ p fJ;have I:p.length+l.length+1=c.length:=by rw[<-f];simp;omega
  have J:tot p+x.n+tot l=tot c:=by rw[<-f,fF,cE];omega
  rw[J1];have o:(p++[x])++l=c:=by simpa using f
  generalize p.foldl bL fJ=d at *
  simp[fJ]at A B C;have G:=λfr=>gj (fr:=fr) (qj (w:=w) (n:=n) hs d.2.1 d.2.2.1 d.2.2.2);have ex:=λfr=>ext d fr (by omega);cases x with
  |drop s=>
   have hs:s.length<=tot c:=by simp only[Pt.n]at J;omega
   have K:=wH (a:=d.2.2.1) (b:=s) (by omega);refine dh (nC rfl q rfl r) (ai (aL (by repeat array_get_dec) (λ_=>?_) λh=>absurd h (by decide)));refine ai (bD (by repeat array_get_dec) rfl rfl (az (az ?_)));rw[dB];exact⟨o,_,_,.val,.val,rfl⟩
  |put s=>
   have hs:s.length<=tot c:=by simp only[Pt.n]at J;omega
   have K:=wH (a:=d.2.2.2) (b:=s) (by omega);refine dh (nC rfl q rfl r) (ai (aL (by repeat array_get_dec) (zb ·) λ_=>?_));refine ai (aL (by repeat array_get_dec) (λ_=>?_) λh=>absurd h (by decide));refine ai (bD (by repeat array_get_dec) rfl rfl (az (az (az ?_))));rw[dB];exact⟨o,_,_,.val,.val,rfl⟩
  |keep k=>
   refine dh (nC rfl q rfl r) (ai (aL (by repeat array_get_dec) (zb ·) λ_=>?_));refine ai (aL (by repeat array_get_dec) (zb ·) λ_=>?_);refine ai (aL (by repeat array_get_dec) (λh=>?_) λh=>?_)
   .have y:0<k:=by have:=aag h;omega
    by_cases j:d.2.2.1=[]/\d.2.2.2=[]
    .have n1:cop .ne (.str d.2.2.1) (.str [])=some false:=by rw[gE,j.1];rfl
     have n2:cop .ne (.str d.2.2.2) (.str [])=some false:=by rw[gE,j.2];rfl
     refine ai (aL (b:=false) (iR (aE rfl (by repeat array_get_dec) rfl) (aE rfl (by repeat array_get_dec) rfl)) (zb ·) λ_=>az ?_);refine ai (bD (by repeat array_get_dec) rfl rfl (az (az (az (az ?_)))));rw[dB];refine⟨o,some (.val (.str eB)),some (.val (.int k)),.val,.val,?_⟩;simp only[bL,xC y,xC j];rw[j.1,j.2];rfl
    .have L:aM (run F w (n+1)) (.orr (.cmp .ne (.v 3) (.c (.str []))) (.cmp .ne (.v 4) (.c (.str [])))) [some (.val (bf c)),some (.own (d.1.map Pt.v)),some (.val (.int d.2.1)),some (.val (.str d.2.2.1)),some (.val (.str d.2.2.2)),some (.val (.str eB)),some (.val (.int k))]=.ok true [some (.val (bf c)),some (.own (d.1.map Pt.v)),some (.val (.int d.2.1)),some (.val (.str d.2.2.1)),some (.val (.str d.2.2.2)),some (.val (.str eB)),some (.val (.int k))]:=by
      by_cases H:d.2.2.1=[]
      .have M:¬ d.2.2.2=[]:=λz=>j ⟨H,z⟩;have n1:cop .ne (.str d.2.2.1) (.str [])=some false:=by rw[gE,H];rfl
       have n2:cop .ne (.str d.2.2.2) (.str [])=some true:=by rw[gE,Z6 M];rfl
       exact iR (aE rfl (by repeat array_get_dec) rfl) (aE rfl (by repeat array_get_dec) rfl)
      .have n1:cop .ne (.str d.2.2.1) (.str [])=some true:=by rw[gE,Z6 H];rfl
       exact CU (aE rfl (by repeat array_get_dec) rfl)
     refine ai (aL L (λ_=>?_) λh=>absurd h (by decide));refine ai (cS (by (repeat (first|array_get_dec|exact G _|exact ex _))) ?_);refine ai (bD (by repeat array_get_dec) rfl rfl ?_);refine ai (bD (by repeat array_get_dec) rfl rfl ?_);refine ai (bD (by repeat array_get_dec) rfl rfl (az ?_));refine ai (bD (by repeat array_get_dec) rfl rfl (az (az (az (az ?_)))));rw[dB];refine⟨o,some (.val (.str eB)),some (.val (.int k)),.val,.val,?_⟩;simp only[bL,xC y,ZS j];rw[acF];rfl
   .have y:¬ 0<k:=by have:=aaO h;omega
    refine az (az (az (az ?_)));rw[dB];refine⟨o,some (.val (.str eB)),some (.val (.int k)),.val,.val,?_⟩;simp only[bL,ZS y];rfl
 .subst g;simp at f;subst f;obtain⟨A,B,C⟩:=wQ p fJ;have e:aW p=dD (p.foldl bL fJ):=rfl;rw[e];generalize p.foldl bL fJ=d at *
  simp[fJ]at A B C;have P:=mw d.2.1 d.2.2.1 d.2.2.2;have G:=λfr=>gj (fr:=fr) (qj (w:=w) (n:=n) hs d.2.1 d.2.2.1 d.2.2.2);have ex:=λfr=>ext d fr (by omega);have N:toT (.lst ((dD d).map Pt.v))=some (bf (dD d)):=by rw[zh];exact kM (cL (by simp[dD];omega))
  refine ai (cS (by (repeat (first|array_get_dec|exact G _|exact ex _))) ?_);exact ai (bN (u6 (aB rfl) N) ⟨rfl,rfl⟩)
inductive Tq where
 |at (i:Nat)|sg (c:Nat)
deriving DecidableEq
noncomputable def Pt.asks:Pt->List (List Nat)
 |.keep n=>List.replicate n []
 |.drop s=>s.map λc=>[c]
 |.put _=>[]
noncomputable def asks(c:List Pt):List (List Nat):=c.flatMap Pt.asks
noncomputable def Pt.told(k:Nat):Pt->List Tq
 |.keep n=>(List.range n).map λj=>.at (k+j)
 |.drop _=>[]
 |.put s=>s.map .sg
noncomputable def told(k:Nat):List Pt->List Tq
 |[]=>[]
 |p :: c=>p.told k++told (k+p.asks.length) c
def eT(a b:List Pt):asks (a++b)=asks a++asks b:=by simp[asks]
def g7(a b:List Pt):∀k,told k (a++b)=told k a++told (k+(asks a).length) b:=by
 induction a with
 |nil=>intro k;simp[told,asks]
 |cons p a c=>
  intro k;simp only[aav,told,c,aap]
  congr 3
  simp[asks];omega
noncomputable def lR(c:List Pt):List (List Nat)×List Tq:=(asks c,told 0 c)
def Rq{i j:Int}{n:Nat}(h0:0<=i)(h1:i<=50000)(h2:n<=50000)(e:j=i+n):dw [.int i,.int j]=some (range i n):=by
 rw[U0 (by omega) (by omega) (by omega) (by omega)]
 congr 2
 omega
noncomputable def Pt.word:Pt->List Nat
 |.keep _=>eB
 |.put _=>nD
 |.drop _=>jW
noncomputable def rS(a b:List Nat):Bool:=!(decide (a=b) || (decide (a=nD)&&decide (b=jW)))
noncomputable def mz:List (List Nat)->Bool
 |a :: b :: r=>rS a b&&mz (b :: r)
 |_=>true
noncomputable def Ow(p:Pt):Bool:=p.n != 0
noncomputable def oX(c:List Pt):Bool:=mz (c.map Pt.word)&&c.all Ow
def fK(k:Nat)(g x:List Nat):asks (cy k g x)=List.replicate k []++g.map λc=>[c]:=by
  unfold cy;by_cases a:0<k<;>by_cases b:g=[]<;>by_cases d:x=[]<;>simp[a,b,d,asks,Pt.asks]
  all_goals (have:k=0:=by omega
             subst this;simp)
def iX(k:Nat)(g x:List Nat)(j:Nat):told j (cy k g x)=(List.range k).map (λi=>Tq.at (j+i))++x.map Tq.sg:=by
  unfold cy;by_cases a:0<k<;>by_cases b:g=[]<;>by_cases c:x=[]<;>simp[a,b,c,told,Pt.told,Pt.asks]
  all_goals (have:k=0:=by omega
             subst this;simp)
def AW(st:FS)(p:Pt):asks (dD (bL st p))=asks (dD st++[p])/\∀j,told j (dD (bL st p))=told j (dD st++[p]):=by
 obtain⟨ps,k,g,x⟩:=st;have c:∀a:List Pt,asks (a++[p])=asks a++p.asks:=λa=>by simp[asks]
 have b:∀(a:List Pt) j,told j (a++[p])=told j a++p.told (j+(asks a).length):=λa j=>by simp[g7,told]
 rw[c];cases p with
 |drop s=>
  refine⟨by simp[bL,dD,eT,fK,Pt.asks],λj=>?_⟩;rw[b];simp[bL,dD,g7,iX,Pt.told]
 |put s=>
  refine⟨by simp[bL,dD,eT,fK,Pt.asks],λj=>?_⟩;rw[b];simp[bL,dD,g7,iX,Pt.told]
 |keep m=>
  simp only[bL];split
  .split
   .rename_i h;obtain⟨rfl,rfl⟩:=h;refine⟨by simp[dD,eT,fK,Pt.asks],λj=>?_⟩;rw[b];simp[dD,eT,g7,iX,fK,Pt.told,List.range_add,abA]
   .refine⟨by simp[dD,eT,fK,Pt.asks],λj=>?_⟩;rw[b];simp[dD,eT,g7,iX,fK,Pt.told,abA]
  .rename_i h;have:m=0:=by omega
   subst this;refine⟨by simp[Pt.asks],λj=>?_⟩;rw[b];simp[Pt.told]
def rT(c:List Pt):∀st:FS,asks (dD (c.foldl bL st))=asks (dD st++c)/\∀j,told j (dD (c.foldl bL st))=told j (dD st++c):=by
 induction c with
 |nil=>intro st;simp
 |cons p c b=>
  intro st;obtain⟨d,f⟩:=b (bL st p);obtain⟨a,g⟩:=AW st p;simp only[aan];have e:dD st++p :: c=(dD st++[p])++c:=by simp
  refine⟨?_,λj=>?_⟩
  .rw[d,e,eT,eT _ c,a]
  .rw[f j,e,g7,g7 _ c,g j,a]
def gp(c:List Pt):asks (aW c)=asks c:=by
 have:=(rT c fJ).1;simpa[aW,fJ,dD,cy]using this
def eH(c:List Pt)(j:Nat):told j (aW c)=told j c:=by
 have:=(rT c fJ).2 j;simpa[aW,fJ,dD,cy]using this
def nF(c:List Pt):lR (aW c)=lR c:=by simp[lR,gp,eH]
noncomputable def kps(c:List Pt):Nat:=tot (c.filter fG)
def qB(c:List Pt):(asks c).length=bu c:=by
 induction c with
 |nil=>rfl
 |cons p c a=>cases p<;>simp[asks,bu,tot,iW,Pt.asks,Pt.n]at a ⊢<;>omega
def nG(c:List Pt):∀j,(told j c).length=gH c:=by
 induction c with
 |nil=>intro j;rfl
 |cons p c a=>intro j;cases p<;>simp[told,gH,tot,dX,Pt.told,Pt.n,a]at a ⊢
def nH(n:Nat)(c:List Pt):bu (.keep n :: c)=n+bu c:=by simp[bu,tot,iW,Pt.n]
def pO(s:List Nat)(c:List Pt):bu (.drop s :: c)=s.length+bu c:=by simp[bu,tot,iW,Pt.n]
def nI(s:List Nat)(c:List Pt):bu (.put s :: c)=bu c:=by simp[bu,tot,iW,Pt.n]
def AX(n:Nat)(c:List Pt):gH (.keep n :: c)=n+gH c:=by simp[gH,tot,dX,Pt.n]
def AY(s:List Nat)(c:List Pt):gH (.drop s :: c)=gH c:=by simp[gH,tot,dX,Pt.n]
def AZ(s:List Nat)(c:List Pt):gH (.put s :: c)=s.length+gH c:=by simp[gH,tot,dX,Pt.n]
def GZ(n:Nat)(c:List Pt):cst (.keep n :: c)=cst c:=by simp[cst,tot,fG,Pt.n]
def G0(s:List Nat)(c:List Pt):cst (.drop s :: c)=s.length+cst c:=by simp[cst,tot,fG,Pt.n]
def G5(s:List Nat)(c:List Pt):cst (.put s :: c)=s.length+cst c:=by simp[cst,tot,fG,Pt.n]
def G6(n:Nat)(c:List Pt):kps (.keep n :: c)=n+kps c:=by simp[kps,tot,abc,fG,Pt.n]
def G7(s:List Nat)(c:List Pt):kps (.drop s :: c)=kps c:=by simp[kps,tot,fG,Pt.n]
def G8(s:List Nat)(c:List Pt):kps (.put s :: c)=kps c:=by simp[kps,tot,fG,Pt.n]
noncomputable def isAt:Tq->Bool
 |.at _=>true
 |_=>false
def C2(c:List Pt):∀j,((told j c).filter isAt).length=kps c:=by
 induction c with
 |nil=>intro j;rfl
 |cons p c b=>
  intro j;have e:∀(m:Nat) (f:Nat->Nat),(((List.range m).map λi=>Tq.at (f i)).filter isAt).length=m:=λm f=>by
   rw[List.filter_eq_self.mpr]
   .simp
   .intro a d;obtain⟨i,_,rfl⟩:=List.mem_map.mp d;rfl
  have g:∀s:List Nat,((s.map Tq.sg).filter isAt).length=0:=λs=>by
   rw[List.filter_eq_nil_iff.mpr]
   .rfl
   .intro a d;obtain⟨i,_,rfl⟩:=List.mem_map.mp d;simp[isAt]
  cases p with
  |keep m=>simp only[told,Pt.told,abK,ZX,e,b,kps,tot,fG,abc,Z4,ZT,List.sum_cons,Pt.n]
  |put s=>simp only[told,Pt.told,abK,ZX,g,b,kps,fG,abc];simp
  |drop s=>simp only[told,Pt.told,abK,ZX,b,kps,fG,abc];simp
def C3(c:List Pt):(cst c:Int)=bu c - kps c+gH c - kps c:=by
 induction c with
 |nil=>rfl
 |cons p c a=>cases p<;>simp only[GZ,G0,G5,nH,pO,nI,AX,AY,AZ,G6,G7,G8]<;>omega
def C4(c:List Pt):tot c+kps c=bu c+gH c:=by
 induction c with
 |nil=>rfl
 |cons p c a=>cases p<;>simp only[cE,Pt.n,nH,pO,nI,AX,AY,AZ,G6,G7,G8]<;>omega
def wU(c:List Pt):bu (aW c)=bu c:=by rw[<-qB,<-qB,gp]
def wV(c:List Pt):gH (aW c)=gH c:=by rw[<-nG _ 0,<-nG _ 0,eH]
def wW(c:List Pt):kps (aW c)=kps c:=by rw[<-C2 _ 0,<-C2 _ 0,eH]
def qC(c:List Pt):cst (aW c)=cst c:=by
 have a:=C3 (aW c);have b:=C3 c;rw[wU,wV,wW]at a;omega
def g8(c:List Pt):tot (aW c)=tot c:=by
 have a:=C4 (aW c);have b:=C4 c;rw[wU,wV,wW]at a;omega
theorem zw:∀(a:List (List Nat)) (b:List (List Nat)),mz (a++b)=true↔mz a=true/\mz b=true/\∀x∈a.getLast?,∀y∈b.head?,rS x y=true
 |[],b=>by simp[mz]
 |[x],[]=>by simp[mz]
 |[x],y :: b=>by simp[mz,and_comm]
 |x :: y :: a,b=>by
  have:=zw (y :: a) b;simp only[aav]at this ⊢;simp only[mz,ZJ,this,List.getLast?_cons_cons];constructor
  .rintro⟨h1,h2,h3,h4⟩;exact⟨⟨h1,h2⟩,h3,h4⟩
  .rintro⟨⟨h1,h2⟩,h3,h4⟩;exact⟨h1,h2,h3,h4⟩
def x8(k:Nat)(g x:List Nat):oX (cy k g x)=true:=by
 unfold cy;by_cases a:0<k<;>by_cases b:g=[]<;>by_cases c:x=[]<;>simp[a,b,c,oX,Ow,mz,rS,Pt.word,Pt.n,eB,nD,jW]
 all_goals omega
def wX(st:FS):Prop:=oX st.1=true/\(st.1≠[]->0<st.2.1)/\∀p∈st.1.getLast?,p.word≠eB
def J2{a b:List Pt}(ha:oX a=true)(hb:oX b=true)(h:∀p∈a.getLast?,∀q∈b.head?,rS p.word q.word=true):oX (a++b)=true:=by
 simp only[oX,ZJ]at ha hb ⊢;refine⟨?_,by rw[List.all_append,ha.2,hb.2];rfl⟩;rw[ZZ,zw];refine⟨ha.1,hb.1,λx c y d=>?_⟩;simp at c d;obtain⟨p,e,rfl⟩:=c;obtain⟨q,f,rfl⟩:=d;exact h p e q f
def wY{k:Nat}{g x:List Nat}(hk:0<k):(cy k g x).head?=some (.keep k):=by simp[cy,hk]
def J3{w:List Nat}(h:w≠eB)(hw:w=nD\/w=jW):rS w eB=true:=by
 rcases hw with rfl|rfl<;>decide
def J4(p:Pt):p.word=eB\/p.word=nD\/p.word=jW:=by cases p<;>simp[Pt.word]
def wZ{st:FS}(h:wX st):oX (dD st)=true:=by
 refine J2 h.1 (x8 _ _ _) λp a q b=>?_;have c:st.1≠[]:=by intro z;rw[z]at a;simp at a
 rw[wY (h.2.1 c)]at b;simp at b;subst b;have d:=h.2.2 p a;exact J3 d ((J4 p).resolve_left d)
def w9{k:Nat}{g x:List Nat}(h:¬ (g=[]/\x=[])):∀p∈(cy k g x).getLast?,p.word≠eB:=by
 unfold cy;by_cases b:x=[]
 .have c:g≠[]:=λz=>h ⟨z,b⟩;intro p a;simp[c,b]at a;subst a;simp[Pt.word,jW,eB]
 .intro p a;simp[b]at a;subst a;simp[Pt.word,nD,eB]
def C5{st:FS}(h:wX st)(p:Pt):wX (bL st p):=by
 cases p with
 |drop s=>exact h
 |put s=>exact h
 |keep k=>
  simp only[bL];split
  .rename_i b;split
   .exact⟨h.1,λz=>by simp;omega,h.2.2⟩
   .rename_i Sv;refine⟨wZ h,λ_=>b,λp a=>?_⟩;rw[acu]at a;cases z:(cy st.2.1 st.2.2.1 st.2.2.2).getLast? with
    |none=>
     exfalso;rw[List.getLast?_eq_none_iff]at z;unfold cy at z;by_cases c:st.2.2.2=[]<;>by_cases d:st.2.2.1=[]<;>simp[c,d]at z Sv
    |some q=>
     rw[z]at a;simp at a;subst a;exact w9 Sv q z
  .exact h
def jk(c:List Pt):oX (aW c)=true:=by
 have:∀(c:List Pt) (a:FS),wX a->wX (c.foldl bL a):=λc=>by
  induction c with
  |nil=>exact λa h=>h
  |cons p c b=>exact λa h=>b _ (C5 h p)
 exact wZ (this c fJ ⟨rfl,λz=>absurd rfl z,λp d=>by simp[fJ]at d⟩)
abbrev Bl:=List Nat×List Nat
abbrev BS:=List Bl×Bl
noncomputable def eV(st:BS):Pt->BS
 |.drop s=>(st.1,(st.2.1++s,st.2.2))
 |.put s=>(st.1,(st.2.1,st.2.2++s))
 |.keep 0=>st
 |.keep (n+1)=>(st.1++st.2 :: List.replicate n ([],[]),([],[]))
noncomputable def qk:BS:=([],([],[]))
noncomputable def blocks(c:List Pt):BS:=c.foldl eV qk
noncomputable def mW(st:List Pt×Nat)(b:Bl):List Pt×Nat:=if b.1=[]/\b.2=[]then (st.1,st.2+1)else (st.1++cy st.2 b.1 b.2,1)
noncomputable def pk(bs:List Bl):List Pt×Nat:=bs.foldl mW ([],0)
def EY(n:Nat):∀st:List Pt×Nat,(List.replicate n (([],[]):Bl)).foldl mW st=(st.1,st.2+n):=by
 induction n with
 |zero=>intro st;simp
 |succ n a=>intro st;simp[ZV,mW,a];omega
noncomputable def zx(st:BS):FS:=((pk st.1).1,(pk st.1).2,st.2.1,st.2.2)
def EZ(st:BS)(p:Pt):bL (zx st) p=zx (eV st p):=by
 obtain⟨bs,g,x⟩:=st;cases p with
 |drop s=>rfl
 |put s=>rfl
 |keep n=>
  cases n with
  |zero=>rfl
  |succ n=>
   have e:pk (bs++(g,x) :: List.replicate n ([],[]))=((mW (pk bs) (g,x)).1,(mW (pk bs) (g,x)).2+n):=by
    simp only[pk,abu,aan,EY]
   simp only[zx,eV,e,bL,Nat.succ_pos,Z4,mW];by_cases h:g=[]/\x=[]
   .simp[h];omega
   .simp[h];omega
def E1(c:List Pt):∀st:BS,c.foldl bL (zx st)=zx (c.foldl eV st):=by
 induction c with
 |nil=>intro st;rfl
 |cons p c a=>intro st;simp only[aan,EZ,a]
def jC(c:List Pt):aW c=dD (zx (blocks c)):=by
 unfold aW blocks;rw[<-E1];rfl
noncomputable def C6(st:List (List Nat)×List Nat):List Nat->List (List Nat)×List Nat
 |[]=>(st.1++[st.2],[])
 |c :: _=>(st.1,st.2++[c])
noncomputable def spT(st:List (List Nat)×List Nat):Tq->List (List Nat)×List Nat
 |.at _=>(st.1++[st.2],[])
 |.sg c=>(st.1,st.2++[c])
def C7(s:List Nat):∀st,(s.map λc=>[c]).foldl C6 st=(st.1,st.2++s):=by
 induction s with
 |nil=>intro st;simp
 |cons c s a=>intro st;simp[C6,a]
def E3(n:Nat):∀st,(List.replicate n []).foldl C6 st=if n=0 then st else (st.1++st.2 :: List.replicate (n - 1) [],[]):=by
 induction n with
 |zero=>intro st;rfl
 |succ n a=>
  intro st;simp only[ZV,aan,C6,a];cases n with
  |zero=>simp
  |succ n=>simp[ZV]
def C8(s:List Nat):∀st,(s.map Tq.sg).foldl spT st=(st.1,st.2++s):=by
 induction s with
 |nil=>intro st;simp
 |cons c s a=>intro st;simp[spT,a]
def E4(n:Nat):∀(k:Nat) st,((List.range n).map λj=>Tq.at (k+j)).foldl spT st=if n=0 then st else (st.1++st.2 :: List.replicate (n - 1) [],[]):=by
 induction n with
 |zero=>intro k st;rfl
 |succ n a=>
  intro k st;rw[aat,ZZ,abu,a];cases n with
  |zero=>simp[spT]
  |succ n=>
   simp[spT];rw[<-List.replicate_succ',ZV]
def rW(c:List Pt):∀st:BS,(asks c).foldl C6 (st.1.map Prod.fst,st.2.1)=((c.foldl eV st).1.map Prod.fst,(c.foldl eV st).2.1):=by
 induction c with
 |nil=>intro st;rfl
 |cons p c a=>
  intro st;have e:asks (p :: c)=p.asks++asks c:=by simp[asks]
  rw[e,abu,aan,<-a]
  congr 1
  cases p with
  |drop s=>simp[Pt.asks,C7,eV]
  |put s=>simp[Pt.asks,eV]
  |keep n=>
   simp only[Pt.asks,E3];cases n with
   |zero=>rfl
   |succ n=>simp[eV]
def rY(c:List Pt):∀(k:Nat) (st:BS),(told k c).foldl spT (st.1.map Prod.snd,st.2.2)=((c.foldl eV st).1.map Prod.snd,(c.foldl eV st).2.2):=by
 induction c with
 |nil=>intro k st;rfl
 |cons p c a=>
  intro k st;rw[told,abu,aan,<-a (k+p.asks.length)]
  congr 1
  cases p with
  |put s=>simp[Pt.told,C8,eV]
  |drop s=>simp[Pt.told,eV]
  |keep n=>
   simp only[Pt.told,E4];cases n with
   |zero=>rfl
   |succ n=>simp[eV]
theorem zy{α β:Type}:∀{a b:List (α×β)},a.map Prod.fst=b.map Prod.fst->a.map Prod.snd=b.map Prod.snd->a=b
 |[],[],_,_=>rfl
 |[],_ :: _,h,_=>by simp at h
 |_ :: _,[],h,_=>by simp at h
 | (x,y) :: a,(x',y') :: b,h1,h2=>by
  simp at h1 h2;rw[h1.1,h2.1,zy h1.2 h2.2]
def oY{a b:List Pt}(h:lR a=lR b):blocks a=blocks b:=by
 have e:asks a=asks b:=Z0 Prod.fst h;have f:told 0 a=told 0 b:=Z0 Prod.snd h;have c:=rW a qk;have g:=rW b qk;have d:=rY a 0 qk;have i:=rY b 0 qk;rw[e,g]at c;rw[f,i]at d;have j:=Z0 Prod.fst c;have k:=Z0 Prod.snd c;have l:=Z0 Prod.fst d;have o:=Z0 Prod.snd d;unfold blocks;exact Prod.ext (zy j.symm l.symm) (Prod.ext k.symm o.symm)
def qD(a b:List Pt):aW a=aW b↔lR a=lR b:=by
 constructor
 .intro h;rw[<-nF a,<-nF b,h]
 .intro h;rw[jC,jC,oY h]
def lS(a:List Pt):aW (aW a)=aW a:=(qD _ _).mpr (nF a)
noncomputable def Pt.sw:Pt->Pt
 |.keep n=>.keep n
 |.put s=>.drop s
 |.drop s=>.put s
noncomputable def sw(c:List Pt):List Pt:=c.map Pt.sw
def uF(c:List Pt):∀st:BS,(sw c).foldl eV (st.1.map Prod.swap,st.2.swap)=((c.foldl eV st).1.map Prod.swap,(c.foldl eV st).2.swap):=by
 induction c with
 |nil=>intro st;rfl
 |cons p c a=>
  intro st;simp only[sw,ZT,aan]at a ⊢;rw[<-a]
  congr 1
  cases p with
  |put s=>rfl
  |drop s=>rfl
  |keep n=>cases n<;>simp[Pt.sw,eV]
def J5{a b:List Pt}(h:aW a=aW b):aW (sw a)=aW (sw b):=by
 have c:=oY ((qD a b).mp h);rw[jC,jC];have d:=uF a qk;have f:=uF b qk;have e:blocks (sw a)=blocks (sw b):=by
  unfold blocks at c ⊢;have z:((qk.1.map Prod.swap,qk.2.swap):BS)=qk:=rfl;rw[z]at d f;rw[d,f,c]
 rw[e]
def Ox(c:List Pt):bu (sw c)=gH c:=by
 induction c with
 |nil=>rfl
 |cons p c a=>cases p<;>simp only[sw,ZT,Pt.sw,nH,pO,nI,AX,AY,AZ]at a ⊢<;>omega
noncomputable def aY:List Pt->List Nat->Bool
 |[],t=>t.isEmpty
 |.keep n :: c,t=>decide (n<=t.length)&&aY c (t.drop n)
 |.drop s :: c,t=>s.isPrefixOf t&&aY c (t.drop s.length)
 |.put _ :: c,t=>aY c t
noncomputable def aO:List Pt->List Nat->List Nat
 |[],_=>[]
 |.keep n :: c,t=>t.take n++aO c (t.drop n)
 |.drop s :: c,t=>aO c (t.drop s.length)
 |.put s :: c,t=>s++aO c t
noncomputable def aZ:List (List Nat)->List Nat->Bool
 |[],[]=>true
 |x :: a,c :: t=>(decide (x=[]) ||decide (x=[c]))&&aZ a t
 |_,_=>false
def C9(n:Nat)(a:List (List Nat)):∀t,aZ (List.replicate n []++a) t=(decide (n<=t.length)&&aZ a (t.drop n)):=by
 induction n with
 |zero=>intro t;simp
 |succ n b=>
  intro t;cases t with
  |nil=>simp[ZV,aZ]
  |cons c t=>simp[ZV,aZ,b]
def Dc(s:List Nat)(a:List (List Nat)):∀t,aZ ((s.map λc=>[c])++a) t=(s.isPrefixOf t&&aZ a (t.drop s.length)):=by
 induction s with
 |nil=>intro t;simp
 |cons c s b=>
  intro t;cases t with
  |nil=>simp[aZ]
  |cons d t=>
   simp only[ZT,aav,aZ,b,List.isPrefixOf,ZU,aa2];by_cases h:c=d<;>simp[h]
def gq(c:List Pt):∀t,aY c t=aZ (asks c) t:=by
 induction c with
 |nil=>intro t;cases t<;>rfl
 |cons p c a=>
  intro t;have e:asks (p :: c)=p.asks++asks c:=by simp[asks]
  rw[e];cases p with
  |keep n=>simp[aY,Pt.asks,C9,a]
  |drop s=>simp[aY,Pt.asks,Dc,a]
  |put s=>simp[aY,Pt.asks,a]
def xg(c:List Pt)(t:List Nat):aY (aW c) t=aY c t:=by rw[gq,gq,gp]
noncomputable def pick(t:List Nat):Tq->List Nat
 |.at i=>(t[i]?).toList
 |.sg c=>[c]
def De(c:List Pt):∀(t:List Nat) (k:Nat),aO c (t.drop k)=(told k c).flatMap (pick t):=by
 induction c with
 |nil=>intro t k;rfl
 |cons p c a=>
  intro t k;rw[told,acC,<-a];cases p with
  |put s=>
   simp only[aO,Pt.told,Pt.asks,aaR,Nat.add_zero]
   congr 1
   induction s with
   |nil=>rfl
   |cons c s a=>simp[pick]at a ⊢;exact a
  |drop s=>simp[aO,Pt.told,Pt.asks,aa8]
  |keep n=>
   simp only[aO,Pt.told,Pt.asks,acq,abp]
   congr 1
   induction n generalizing k with
   |zero=>simp
   |succ n b=>
    rw[aat,ZZ,acC,<-b];rw[List.take_add_one];simp[pick]
def iB(c:List Pt)(t:List Nat):aO (aW c) t=aO c t:=by
 have a:=De (aW c) t 0;have b:=De c t 0;rw[eH,<-b]at a;simpa using a
def E5(c:List Pt):∀t,aY c t=true->aY (sw c) (aO c t)=true/\aO (sw c) (aO c t)=t:=by
 induction c with
 |nil=>intro t h;simp[aY]at h;subst h;simp[sw,aY,aO]
 |cons p c d=>
  intro t h;cases p with
  |keep n=>
   simp only[aY,ZJ,aaJ]at h;obtain⟨a,b⟩:=d _ h.2;have g:(t.take n).length=n:=by simp;omega
   simp only[sw,ZT,Pt.sw,aO,aY]at a b ⊢;have e:(t.take n++aO c (t.drop n)).drop n=aO c (t.drop n):=by rw[List.drop_append_of_le_length (by omega),aaN (by omega)];rfl
   have f:(t.take n++aO c (t.drop n)).take n=t.take n:=by rw[abG (by omega),List.take_take,Nat.min_self]
   rw[e,f,a,b];simp;omega
  |drop s=>
   simp only[aY,ZJ]at h;obtain⟨a,b⟩:=d _ h.2;simp only[sw,ZT,Pt.sw,aO,aY]at a b ⊢;rw[b];refine⟨a,?_⟩;obtain⟨r,rfl⟩:=List.isPrefixOf_iff_prefix.mp h.1;simp
  |put s=>
   simp only[aY]at h;obtain⟨a,b⟩:=d _ h;simp only[sw,ZT,Pt.sw,aO,aY]at a b ⊢;simp[a,b]
noncomputable def xj(eS:Nat):Fn:=⟨2,4,(.cons (.set 2 (.c (.int 0))) (.cons (.for (.one 3) (.seq (.v 0)) (.cons (.iff (.an (.cmp .eq (.ix (.v 3) (.c (.int 0))) (.c (.str [100,114,111,112]))) (.cmp .ne (.sl (.v 1) (.yes (.v 2)) (.yes (.bin .add (.v 2) (.cl eS (.cons (.v 3) .nil))))) (.ix (.v 3) (.c (.int 1))))) (.cons (.ret (.c (.bl false))) .nil) .nil) (.cons (.iff (.cmp .ne (.ix (.v 3) (.c (.int 0))) (.c (.str [112,117,116]))) (.cons (.set 2 (.bin .add (.v 2) (.cl eS (.cons (.v 3) .nil)))) .nil) .nil) .nil))) (.cons (.ret (.cmp .eq (.v 2) (.bi .len (.cons (.v 1) .nil)))) .nil)))⟩
noncomputable def Df(Oz:Nat):Fn:=⟨2,6,(.cons (.iff (.nt (.cl Oz (.cons (.v 0) (.cons (.v 1) .nil)))) (.cons (.fC 0) .nil) .nil) (.cons (.set 2 (.lst .nil)) (.cons (.set 3 (.c (.int 0))) (.cons (.for (.many [4,5]) (.seq (.v 0)) (.cons (.iff (.cmp .eq (.v 4) (.c (.str [112,117,116]))) (.cons (.exp (.me .append (.v 2) (.cons (.v 5) .nil))) .nil) (.cons (.iff (.cmp .eq (.v 4) (.c (.str [100,114,111,112]))) (.cons (.set 3 (.bin .add (.v 3) (.bi .len (.cons (.v 5) .nil)))) .nil) (.cons (.exp (.me .append (.v 2) (.cons (.sl (.v 1) (.yes (.v 3)) (.yes (.bin .add (.v 3) (.v 5)))) .nil))) (.cons (.set 3 (.bin .add (.v 3) (.v 5))) .nil))) .nil)) .nil)) (.cons (.ret (.me .join (.c (.str [])) (.cons (.v 2) .nil))) .nil)))))⟩
noncomputable def oZ(kX:Nat):Fn:=⟨1,1,(.cons (.ret (.cl kX (.cons (.tup (.cons (.tup (.cons (.c (.str [107,101,101,112])) (.cons (.v 0) .nil))) .nil)) .nil))) .nil)⟩
def xm{α:Type}(l:List α)(p k:Nat):cut l (some (p:Int)) (some ((p:Int)+k))=(l.drop p).take k:=by
 have a:¬ (p:Int)<0:=by omega
 have b:¬ (p:Int)+k<0:=by omega
 have c:((p:Int)+k).toNat=p+k:=by omega
 simp only[cut,aT,a,b,aaH,c,abw];by_cases d:p<=l.length
 .rw[abf d];by_cases e:p+k<=l.length
  .rw[abf e];congr 1;omega
  .rw[abZ (by omega),aaj (by simp),aaj (by simp;omega)]
 .have f:min p l.length=l.length:=by omega
  rw[f,aaN (ZO _),aaN (by omega)];simp
def pre_take{s t:List Nat}:s.isPrefixOf t=decide (t.take s.length=s):=by
 cases h:s.isPrefixOf t with
 |true=>
  obtain⟨r,rfl⟩:=List.isPrefixOf_iff_prefix.mp h;simp
 |false=>
  symm
  rw[ab4];intro e;have:s.isPrefixOf t=true:=List.isPrefixOf_iff_prefix.mpr (by have z:=List.take_prefix s.length t;rw[e]at z;exact z);rw[h]at this;cases this
def zz(a b:List Pt):bu (a++b)=bu a+bu b:=by simp[bu,tot]
def kh{c:List Pt}:∀{t:List Nat},aY c t=true->t.length=bu c:=by
 induction c with
 |nil=>intro t h;simp[aY]at h;subst h;rfl
 |cons p c a=>
  intro t h;cases p with
  |keep n=>simp only[aY,ZJ,aaJ]at h;have:=a h.2;rw[nH];simp at this;omega
  |drop s=>
   simp only[aY,ZJ]at h;have b:=a h.2;obtain⟨r,rfl⟩:=List.isPrefixOf_iff_prefix.mp h.1;rw[pO];simp at b ⊢;omega
  |put s=>rw[nI];exact a h
def nJ(c:List Pt):∀t,(aO c t).length<=t.length+tot c:=by
 induction c with
 |nil=>intro t;simp[aO]
 |cons p c a=>
  intro t;rw[cE];cases p with
  |keep n=>have:=a (t.drop n);simp[aO,Pt.n]at this ⊢;omega
  |drop s=>have:=a (t.drop s.length);simp[aO,Pt.n]at this ⊢;omega
  |put s=>have:=a t;simp[aO,Pt.n]at this ⊢;omega
section
variable{F:List Fn}{w n aN mX i:Nat}
def E6(c:List Pt)(t:List Nat)(q:Nat)(p:Pt)(l:List Pt)(h:aY c t=(decide (q<=t.length)&&aY (p :: l) (t.drop q))) :
  (dX p=true->(∃s,p=.drop s/\(if (t.drop q).take s.length=s then aY c t=(decide (q+s.length<=t.length)&&aY l (t.drop (q+s.length)))else aY c t=false)))/\
  (dX p=false->aY c t=(decide (q+bu [p]<=t.length)&&aY l (t.drop (q+bu [p])))):=by
 cases p with
 |drop s=>
  refine⟨λ_=>⟨s,rfl,?_⟩,λz=>by simp[dX]at z⟩;simp only[aY,pre_take,abp]at h;split
  .rename_i d;rw[h];simp only[d,decide_true,Bool.true_and];have f:=Z0 List.length d;simp at f;by_cases b:q<=t.length
   .by_cases a:q+s.length<=t.length
    .simp[b,a]
    .omega
   .have:¬ q+s.length<=t.length:=by omega
    simp[b,this]
  .rename_i d;rw[h];simp[d]
 |keep k=>
  refine⟨λz=>by simp[dX]at z,λ_=>?_⟩;have e:bu [.keep k]=k:=by rw[nH];rfl
  rw[h,e];simp only[aY,abp,abb];by_cases b:q<=t.length
  .by_cases a:q+k<=t.length
   .have:k<=t.length - q:=by omega
    simp[b,a,this]
   .have:¬ k<=t.length - q:=by omega
    simp[a,this]
  .have:¬ q+k<=t.length:=by omega
   simp[b,this]
 |put s=>
  refine⟨λz=>by simp[dX]at z,λ_=>?_⟩;have e:bu [.put s]=0:=by rw[nI];rfl
  rw[h,e];simp[aY]
def E7(hs:F[aN]?=some fE)(hf:F[i]?=some (xj aN))(c:List Pt)(t:List Nat)(h1:tot c<=10000)(h2:t.length<=10000):run F w (n+2) i [.val (bf c),.val (.str t)]=some (.bl (aY c t),[]):=by
 refine bX hf rfl ?_;refine ai (bD (by repeat array_get_dec) rfl rfl ?_);refine ai (gY (vs:=c.map Pt.v) (kR (kg rfl) rfl) ?_);refine iA (e:=Pt.v) (λp l fr=>p++l=c/\aY c t=(decide (bu p<=t.length)&&aY l (t.drop (bu p)))/\∃a,vo a/\fr=[some (.val (bf c)),some (.val (.str t)),some (.val (.int (bu p))),a]) (λp x l fr ⟨d,f,a,q,o⟩=>?_) (λp fr ⟨d,f,a,q,o⟩=>?_) c [] _ ⟨rfl,by simp[bu,tot],none,.none,rfl⟩
 .subst o;have J:tot p+x.n+tot l=tot c:=by rw[<-d,fF,cE];omega
  have sz:=λfr=>gD (fr:=fr) (kW (w:=w) (n:=n) hs x (by omega));obtain⟨r,g⟩:=E6 c t (bu p) x l f;have C:(p++[x])++l=c:=by simpa using d
  have j:bu (p++[x])=bu p+bu [x]:=zz p [x];have A:((bu (p++[x]):Nat):Int)=(bu p:Int)+(bu [x]:Nat):=by rw[j];simp
  cases x with
  |drop s=>
   obtain⟨K,e,r⟩:=r rfl;cases e;have y:bu [.drop s]=s.length:=by rw[pO];rfl
   rw[y]at j A;have L:ir (.str t) (some (bu p:Int)) (some ((bu p:Int)+((Pt.drop s).n:Nat)))=some (.str ((t.drop (bu p)).take s.length)):=by rw[jg];exact Z0 (λz=>some (V.str z)) (xm t (bu p) s.length)
   by_cases B:(t.drop (bu p)).take s.length=s
   .rw[xC B]at r;have G:cop .ne (.str ((t.drop (bu p)).take s.length)) (.str s)=some false:=by rw[gE,aae B];rfl
    refine dh (bind1 rfl q) (ai (aL (b:=false) (gW (b2:=false) (aE rfl (by repeat array_get_dec) rfl) (aE rfl (by (repeat (first|array_get_dec|exact sz _))) rfl)) (zb ·) λ_=>az ?_));refine ai (aL (by repeat array_get_dec) (λ_=>?_) λh=>absurd h (by decide));refine ai (bD (by (repeat (first|array_get_dec|exact sz _))) rfl rfl (az (az ?_)));rw[dB];exact⟨C,by rw[j];exact r,some (.val (Pt.drop s).v),.val,by rw[A];rfl⟩
   .rw[ZS B]at r;have G:cop .ne (.str ((t.drop (bu p)).take s.length)) (.str s)=some true:=by rw[gE,Z6 B];rfl
    refine dh (bind1 rfl q) (ai (aL (b:=true) (gW (b2:=true) (aE rfl (by repeat array_get_dec) rfl) (aE rfl (by (repeat (first|array_get_dec|exact sz _))) rfl)) (λ_=>?_) λh=>absurd h (by decide)));refine ai (bN (by repeat array_get_dec) ?_);show nx _ _ _ _ _ _;rw[r];exact⟨rfl,rfl⟩
  |keep k=>
   have g:=g rfl;have y:bu [.keep k]=k:=by rw[nH];rfl
   rw[y]at g j A;refine dh (bind1 rfl q) (ai (aL (b:=false) (rQ (aE rfl (by repeat array_get_dec) rfl)) (zb ·) λ_=>az ?_));refine ai (aL (by repeat array_get_dec) (λ_=>?_) λh=>absurd h (by decide));refine ai (bD (by (repeat (first|array_get_dec|exact sz _))) rfl rfl (az (az ?_)));rw[dB];exact⟨C,by rw[j];exact g,some (.val (Pt.keep k).v),.val,by rw[A];rfl⟩
  |put s=>
   have g:=g rfl;have y:bu [.put s]=0:=by rw[nI];rfl
   rw[y]at g j;refine dh (bind1 rfl q) (ai (aL (b:=false) (rQ (aE rfl (by repeat array_get_dec) rfl)) (zb ·) λ_=>az ?_));refine ai (aL (by repeat array_get_dec) (zb ·) λ_=>az (az ?_));rw[dB];exact⟨C,by rw[j];exact g,some (.val (Pt.put s).v),.val,by rw[j];rfl⟩
 .subst o;simp at d;subst d;have e:decide ((bu p:Int)=(t.length:Nat))=aY p t:=by
   rw[f];simp only[aY];by_cases H:bu p=t.length
   .have:(bu p:Int)=t.length:=by omega
    simp[this,H]
   .have:¬ (bu p:Int)=t.length:=by omega
    simp[this];intro h;omega
  have M:dS .len [.str t]=some (.int (t.length:Nat)):=abC (by omega);have N:cop .eq (.int (bu p)) (.int (t.length:Nat))=some (aY p t):=by rw[qA,e]
  have I:gh [some (.val (bf p)),some (.val (.str t)),some (.val (.int (bu p))),a]=[some (.val (bf p)),some (.val (.str t)),some (.val (.int (bu p))),a]:=by
   show _ :: _ :: _ :: [a.map Sl.eZ]=_;rw[dR q];rfl
  refine ai (bN (v:=.bl (aY p t)) (af:=[some (.val (bf p)),some (.val (.str t)),some (.val (.int (bu p))),a]) ?_ ⟨rfl,rfl⟩);rw[I];repeat array_get_dec
def E8(hs:F[aN]?=some fE)(hf:F[mX]?=some (xj aN))(hd:F[i]?=some (Df mX))(c:List Pt)(t:List Nat)(h1:tot c<=10000)(h2:t.length<=10000)(h3:c.length<=10000)(h:aY c t=true):run F w (n+3) i [.val (bf c),.val (.str t)]=some (.str (aO c t),[]):=by
 refine bX hd rfl ?_;have B:=λfr=>call2 (fr:=fr) (E7 (w:=w) (n:=n) hs hf c t h1 h2);rw[h]at B;refine ai (aL (b:=false) (rR (aE (b:=true) rfl (by (repeat (first|array_get_dec|exact B _))) rfl)) (zb ·) λ_=>az ?_);refine ai (iV (l:=[]) (by repeat array_get_dec) rfl rfl ?_);refine ai (bD (by repeat array_get_dec) rfl rfl ?_);refine ai (gY (vs:=c.map Pt.v) (kR (kg rfl) rfl) ?_);refine iA (e:=Pt.v) (λp l fr=>p++l=c/\∃ps a b,vo a/\vo b/\ps.length<=p.length/\ps.flatten++aO l (t.drop (bu p))=aO c t/\fr=[some (.val (bf c)),some (.val (.str t)),some (.own (ps.map V.str)),some (.val (.int (bu p))),a,b]) (λp x l fr ⟨d,ps,a,b,j,o,H,hd,g⟩=>?_) (λp fr ⟨d,ps,a,b,j,o,H,hd,g⟩=>?_) c [] _ ⟨rfl,[],none,none,.none,.none,by simp,by simp[bu,tot],rfl⟩
 .subst g;have A:(p++[x])++l=c:=by simpa using d
  have f:bu (p++[x])=bu p+bu [x]:=zz p [x];have y:((bu (p++[x]):Nat):Int)=(bu p:Int)+(bu [x]:Nat):=by rw[f];simp
  have I:tot p+x.n+tot l=tot c:=by rw[<-d,fF,cE];omega
  have C:p.length+l.length+1=c.length:=by rw[<-d];simp;omega
  have G:∀(fr:Fr) (z:List Nat),gU .append 2 [.str z] fr (some (some (.own (ps.map V.str))))=.ok .aV (fr.set 2 (some (.own ((ps++[z]).map V.str)))):=λfr z=>by
   rw[ZZ];exact j9 (by simp;omega)
  cases x with
  |put s=>
   have q:bu [.put s]=0:=by rw[nI];rfl
   rw[q]at f;refine dh (nC rfl j rfl o) (ai (aL (by repeat array_get_dec) (λ_=>?_) λh=>absurd h (by decide)));refine ai (cS (by (repeat (first|array_get_dec|exact G _ _))) (az (az ?_)));rw[dB];exact⟨A,ps++[s],some (.val (.str nD)),some (.val (.str s)),.val,.val,by simp;omega,by rw[f];simpa[aO]using hd,by rw[f];rfl⟩
  |drop s=>
   have q:bu [.drop s]=s.length:=by rw[pO];rfl
   rw[q]at f y;have X6:s.length<=tot c:=by simp only[Pt.n]at I;omega
   have L:dS .len [.str s]=some (.int (s.length:Nat)):=abC (by omega);refine dh (nC rfl j rfl o) (ai (aL (by repeat array_get_dec) (zb ·) λ_=>?_));refine ai (aL (by repeat array_get_dec) (λ_=>?_) λh=>absurd h (by decide));refine ai (bD (by repeat array_get_dec) rfl rfl (az (az (az ?_))));rw[dB];exact⟨A,ps,some (.val (.str jW)),some (.val (.str s)),.val,.val,by simp;omega,by rw[f];simpa[aO]using hd,by rw[y];rfl⟩
  |keep k=>
   have q:bu [.keep k]=k:=by rw[nH];rfl
   rw[q]at f y;have M:ir (.str t) (some (bu p:Int)) (some ((bu p:Int)+(k:Nat)))=some (.str ((t.drop (bu p)).take k)):=by rw[jg,xm]
   refine dh (nC rfl j rfl o) (ai (aL (by repeat array_get_dec) (zb ·) λ_=>?_));refine ai (aL (by repeat array_get_dec) (zb ·) λ_=>?_);refine ai (cS (by (repeat (first|array_get_dec|exact G _ _))) ?_);refine ai (bD (by repeat array_get_dec) rfl rfl (az (az (az ?_))));rw[dB];exact⟨A,ps++[(t.drop (bu p)).take k],some (.val (.str eB)),some (.val (.int k)),.val,.val,by simp;omega,by rw[f];simpa[aO]using hd,by rw[y];rfl⟩
 .subst g;simp at d;subst d;have r:ps.flatten=aO p t:=by simpa[aO]using hd
  have N:=nJ p t;have J:=GQ (l:=ps) (by rw[r];omega);rw[r]at J;have K:gh [some (.val (bf p)),some (.val (.str t)),some (.own (ps.map V.str)),some (.val (.int (bu p))),a,b]=[some (.val (bf p)),some (.val (.str t)),some (.val (.lst (ps.map V.str))),some (.val (.int (bu p))),a,b]:=by
   show _ :: _ :: _ :: _ :: a.map Sl.eZ :: [b.map Sl.eZ]=_;rw[dR j,dR o];rfl
  refine ai (bN (v:=.str (aO p t)) (af:=[some (.val (bf p)),some (.val (.str t)),some (.val (.lst (ps.map V.str))),some (.val (.int (bu p))),a,b]) ?_ ⟨rfl,rfl⟩);rw[K];repeat array_get_dec
end
end Pv
namespace Pv
open Ev (rep)
def Dg(ns:List Int)(at_:Int)(s:List Nat)(k:Nat):tot (jX ns at_ s k)<=3:=by
 have d:=kQ ns (at_+4*k+2) (many:=2) (by decide);have e:=kP ns (at_+4*k+2) (many:=2) (by decide);unfold jX;rw[fF];have a:tot (if cO ns (at_+4*k) 4=0 then [Pt.put (rep (1+cO ns (at_+4*k+2) 2).toNat [[97,98,122].getD (cO ns (at_+4*k+1) 3).toNat 0])]else [])<=2:=by
  split
  .simp[tot,Pt.n,rep];omega
  .simp[tot]
 cases s[k]? with
 |none=>simp[tot]at a ⊢;omega
 |some c=>
  have b:tot [if 0<cO ns (at_+4*k+3) 3 then Pt.keep 1 else Pt.drop [c]]<=1:=by split<;>simp[tot,Pt.n]
  simp only at b ⊢;omega
theorem uG(ns:List Int)(at_:Int)(s:List Nat):∀k,tot (fQ ns at_ s k)<=3*k
 |0=>by simp[fQ,tot]
 |k+1=>by
  have a:=Dg ns at_ s k;have b:=uG ns at_ s k;rw[jY,fF];omega
theorem qE:∀{a:List (List Nat)}{t:List Nat},aZ a t=true->a.length=t.length
 |[],[],_=>rfl
 |x :: a,c :: t,h=>by simp[aZ]at h;simp[qE h.2]
 |[],_ :: _,h=>by simp[aZ]at h
 |_ :: _,[],h=>by simp[aZ]at h
theorem qF:∀{a b:List (List Nat)}{t u:List Nat},aZ a t=true->aZ b u=true->aZ (a++b) (t++u)=true
 |[],_,[],_,_,hb=>hb
 |x :: a,b,c :: t,u,ha,hb=>by
  simp only[aZ,ZJ]at ha;simp only[aav,aZ,ZJ];exact⟨ha.1,qF ha.2 hb⟩
 |[],_,_ :: _,_,ha,_=>by simp[aZ]at ha
 |_ :: _,_,[],_,ha,_=>by simp[aZ]at ha
def J6(ns:List Int)(at_:Int)(s:List Nat)(k:Nat):aZ (asks (jX ns at_ s k)) (s[k]?).toList=true:=by
 unfold jX;rw[eT];have a:asks (if cO ns (at_+4*k) 4=0 then [Pt.put (rep (1+cO ns (at_+4*k+2) 2).toNat [[97,98,122].getD (cO ns (at_+4*k+1) 3).toNat 0])]else [])=[]:=by
  split<;>simp[asks,Pt.asks]
 rw[a];cases s[k]? with
 |none=>simp[asks,aZ]
 |some c=>simp only;split<;>simp[asks,Pt.asks,aZ]
theorem Dh(ns:List Int)(at_:Int)(s:List Nat):∀k,aZ (asks (fQ ns at_ s k)) (s.take k)=true
 |0=>by simp[fQ,asks,aZ]
 |k+1=>by
  rw[jY,eT,List.take_add_one];exact qF (Dh ns at_ s k) (J6 ns at_ s k)
def zA(ns:List Int)(at_:Int)(s:List Nat):aY (chg ns at_ s) s=true:=by
 have:=Dh ns at_ s (s.length+1);rw[aaj (by omega)]at this;rw[gq];exact this
end Pv
namespace Pv
inductive At where
 |k|d (c:Nat)|p (c:Nat)
noncomputable def Pt.aS:Pt->List At
 |.keep n=>List.replicate n .k
 |.drop s=>s.map .d
 |.put s=>s.map .p
noncomputable def aS(c:List Pt):List At:=c.flatMap Pt.aS
def ki(a b:List Pt):aS (a++b)=aS a++aS b:=by simp[aS]
def dF(p:Pt)(c:List Pt):aS (p :: c)=p.aS++aS c:=by simp[aS]
def xo(p:Pt):p.aS.length=p.n:=by cases p<;>simp[Pt.aS,Pt.n]
def kj(c:List Pt):(aS c).length=tot c:=by
 induction c with
 |nil=>rfl
 |cons p c a=>rw[dF,ZX,xo,a,cE]
noncomputable def tA:Nat->List At->List Tq
 |_,[]=>[]
 |i,.k :: a=>.at i :: tA (i+1) a
 |i,.d _ :: a=>tA (i+1) a
 |i,.p c :: a=>.sg c :: tA i a
noncomputable def aA:List At->List (List Nat)
 |[]=>[]
 |.k :: a=>[] :: aA a
 |.d c :: a=>[c] :: aA a
 |.p _ :: a=>aA a
noncomputable def dA:List At->List Nat->List Nat
 |[],_=>[]
 |.k :: a,t=>t.take 1++dA a (t.drop 1)
 |.d _ :: a,t=>dA a (t.drop 1)
 |.p c :: a,t=>c :: dA a t
noncomputable def ql:At->At
 |.k=>.k
 |.d c=>.p c
 |.p c=>.d c
noncomputable def cA:List At->Nat
 |[]=>0
 |.k :: a=>cA a
 |_ :: a=>cA a+1
theorem rZ:∀a b:List At,aA (a++b)=aA a++aA b
 |[],_=>rfl
 |.k :: a,b=>by simp[aA,rZ a b]
 |.d c :: a,b=>by simp[aA,rZ a b]
 |.p c :: a,b=>by simp[aA,rZ a b]
theorem r8:∀(a b:List At) (i:Nat),tA i (a++b)=tA i a++tA (i+(aA a).length) b
 |[],_,_=>rfl
 |.k :: a,b,i=>by simp[tA,aA,r8 a b,abA,aa8 1]
 |.d c :: a,b,i=>by simp[tA,aA,r8 a b,abA,aa8 1]
 |.p c :: a,b,i=>by simp[tA,aA,r8 a b]
theorem sd:∀a b:List At,cA (a++b)=cA a+cA b
 |[],b=>by simp[cA]
 |.k :: a,b=>by simp[cA,sd a b]
 |.d c :: a,b=>by simp[cA,sd a b];omega
 |.p c :: a,b=>by simp[cA,sd a b];omega
def G9(p:Pt):aA p.aS=p.asks:=by
 cases p with
 |keep n=>simp only[Pt.aS,Pt.asks];induction n<;>simp_all [ZV,aA]
 |drop s=>simp only[Pt.aS,Pt.asks];induction s<;>simp_all [aA]
 |put s=>simp only[Pt.aS,Pt.asks];induction s<;>simp_all [aA]
def Rt(p:Pt):∀i,tA i p.aS=p.told i:=by
 cases p with
 |keep n=>
  simp only[Pt.aS,Pt.told];induction n with
  |zero=>intro i;rfl
  |succ n a=>intro i;simp only[ZV,tA,a,abz,ZT,abD];simp[Function.comp_def,abA,aa8 1]
 |drop s=>intro i;simp only[Pt.aS,Pt.told];induction s generalizing i<;>simp_all [tA]
 |put s=>intro i;simp only[Pt.aS,Pt.told];induction s generalizing i<;>simp_all [tA]
def Ru(p:Pt):cA p.aS=cst [p]:=by
 cases p with
 |keep n=>simp only[Pt.aS];rw[GZ];induction n<;>simp_all [ZV,cA,cst,tot]
 |drop s=>simp only[Pt.aS];rw[G0];induction s<;>simp_all [cA,cst,tot]
 |put s=>simp only[Pt.aS];rw[G5];induction s<;>simp_all [cA,cst,tot]
def gu(c:List Pt):asks c=aA (aS c):=by
 induction c with
 |nil=>rfl
 |cons p c a=>rw[dF,rZ,G9,<-a];simp[asks]
def eU(c:List Pt):∀i,told i c=tA i (aS c):=by
 induction c with
 |nil=>intro i;rfl
 |cons p c a=>intro i;rw[dF,r8,Rt,G9,<-a,told]
def pP(c:List Pt):cst c=cA (aS c):=by
 induction c with
 |nil=>rfl
 |cons p c a=>
  rw[dF,sd,Ru,<-a];simp[cst,tot];cases p<;>simp[abc,fG]
def xq(c:List Pt):aS (sw c)=(aS c).map ql:=by
 induction c with
 |nil=>rfl
 |cons p c a=>
  have:aS (sw (p :: c))=p.sw.aS++aS (sw c):=by simp[aS,sw]
  rw[this,a,dF,ZZ]
  congr 1
  cases p<;>simp[Pt.sw,Pt.aS,ql,Function.comp_def]
def fc:∀(c:List Pt) (t:List Nat),aO c t=dA (aS c) t:=by
 have k:∀(n:Nat) (a:List At) (t:List Nat),dA (List.replicate n .k++a) t=t.take n++dA a (t.drop n):=λn=>by
  induction n with
  |zero=>intro a t;simp
  |succ n b=>
   intro a t;simp only[ZV,aav,dA,b,abp];cases t with
   |nil=>simp
   |cons c t=>simp[aa8 1]
 have d:∀(s:List Nat) (a:List At) (t:List Nat),dA (s.map .d++a) t=dA a (t.drop s.length):=λs=>by
  induction s with
  |nil=>intro a t;simp
  |cons c s b=>intro a t;simp[dA,b,aa8 1]
 have p:∀(s:List Nat) (a:List At) (t:List Nat),dA (s.map .p++a) t=s++dA a t:=λs=>by
  induction s with
  |nil=>intro a t;simp
  |cons c s b=>intro a t;simp[dA,b]
 intro c;induction c with
 |nil=>intro t;rfl
 |cons q c b=>
  intro t;rw[dF];cases q with
  |keep n=>simp only[Pt.aS,k,aO,b]
  |drop s=>simp only[Pt.aS,d,aO,b]
  |put s=>simp only[Pt.aS,p,aO,b]
noncomputable def Di:List At->Bool
 |.d _ :: _=>false
 |_=>true
inductive Th:List At->List At->List At->Prop
 |nil:Th [] [] []
 |d {a b r c}:Th a b r->Th (.d c :: a) b (.d c :: r)
 |p {a b r c}:Di a=true->Th a b r->Th a (.p c :: b) (.p c :: r)
 |kk {a b r}:Th a b r->Th (.k :: a) (.k :: b) (.k :: r)
 |kd {a b r c}:Th a b r->Th (.k :: a) (.d c :: b) (.d c :: r)
 |pk {a b r c}:Th a b r->Th (.p c :: a) (.k :: b) (.p c :: r)
 |pd {a b r c}:Th a b r->Th (.p c :: a) (.d c :: b) r
noncomputable def sub(L:List Tq):Tq->Tq
 |.at j=>L.getD j (.sg 0)
 |.sg c=>.sg c
def se{L M:List Tq}{q:Tq}{j:Nat}(h:L.length=j):sub (L++q :: M) (.at j)=q:=by
 subst h;simp[sub]
def Th.told{a b r:List At}(h:Th a b r):∀(i j:Nat) (L:List Tq),L.length=j->tA i r=(tA j b).map (sub (L++tA i a)):=by
 induction h with
 |nil=>intro i j L e;rfl
 |d h f=>intro i j L e;exact f (i+1) j L e
 |p _ h f=>intro i j L e;simp only[tA,ZT];rw[f i j L e];rfl
 |kk h f=>
  intro i j L e;simp only[tA,ZT];rw[f (i+1) (j+1) (L++[.at i]) (by simp[e]),se e];simp
 |kd h f=>
  intro i j L e;simp only[tA];rw[f (i+1) (j+1) (L++[.at i]) (by simp[e])];simp
 |@pk _ _ _ c h f=>
  intro i j L e;simp only[tA,ZT];rw[f i (j+1) (L++[.sg c]) (by simp[e]),se e];simp
 |@pd _ _ _ c h f=>
  intro i j L e;simp only[tA];rw[f i (j+1) (L++[.sg c]) (by simp[e])];simp
def Th.back{a b r:List At}(h:Th a b r):∀(i j:Nat) (L:List Tq),L.length=j->tA i (r.map ql)=(tA j (a.map ql)).map (sub (L++tA i (b.map ql))):=by
 induction h with
 |nil=>intro i j L e;rfl
 |d h f=>intro i j L e;simp only[ZT,ql,tA];rw[f i j L e];rfl
 |p _ h f=>intro i j L e;exact f (i+1) j L e
 |kk h f=>
  intro i j L e;simp only[ZT,ql,tA];rw[f (i+1) (j+1) (L++[.at i]) (by simp[e]),se e];simp
 |@kd _ _ _ c h f=>
  intro i j L e;simp only[ZT,ql,tA];rw[f i (j+1) (L++[.sg c]) (by simp[e]),se e];simp
 |pk h f=>
  intro i j L e;simp only[ZT,ql,tA];rw[f (i+1) (j+1) (L++[.at i]) (by simp[e])];simp
 |@pd _ _ _ c h f=>
  intro i j L e;simp only[ZT,ql,tA];rw[f i (j+1) (L++[.sg c]) (by simp[e])];simp
def Th.fit{a b r:List At}(h:Th a b r):∀t,aZ (aA a) t=true->aZ (aA b) (dA a t)=true->aZ (aA r) t=true:=by
 induction h with
 |nil=>intro t c _;exact c
 |d h f=>
  intro t c e;cases t with
  |nil=>simp[aA,aZ]at c
  |cons x t=>simp only[aA,aZ,ZJ]at c ⊢;exact⟨c.1,f t c.2 e⟩
 |p _ h f=>intro t c e;exact f t c e
 |kk h f=>
  intro t c e;cases t with
  |nil=>simp[aA,aZ]at c
  |cons x t=>simp only[aA,aZ,ZJ,dA,aak,List.take_zero,aa2,aaA,acp]at c e ⊢;exact⟨c.1,f t c.2 e.2⟩
 |kd h f=>
  intro t c e;cases t with
  |nil=>simp[aA,aZ]at c
  |cons x t=>simp only[aA,aZ,ZJ,dA,aak,List.take_zero,aa2,aaA,acp]at c e ⊢;exact⟨e.1,f t c.2 e.2⟩
 |pk h f=>intro t c e;simp only[aA,dA,aZ,ZJ]at c e ⊢;exact f t c e.2
 |pd h f=>intro t c e;simp only[aA,dA,aZ,ZJ]at c e ⊢;exact f t c e.2
def Th.all:∀(n:Nat) (a b:List At) (t:List Nat),a.length+b.length<=n->aZ (aA a) t=true->aZ (aA b) (dA a t)=true->∃r,Th a b r:=by
 intro n;induction n with
 |zero=>
  intro a b t g _ _;obtain rfl:a=[]:=List.length_eq_zero_iff.mp (by omega);obtain rfl:b=[]:=List.length_eq_zero_iff.mp (by omega);exact⟨[],.nil⟩
 |succ n i=>
  intro a b t g f e;cases a with
  |nil=>
   cases b with
   |nil=>exact⟨[],.nil⟩
   |cons y b=>
    cases y with
    |p c=>obtain⟨r,h⟩:=i [] b t (by simp at g ⊢;omega) f e;exact⟨_,.p rfl h⟩
    |k=>simp[aA,dA,aZ]at e
    |d c=>simp[aA,dA,aZ]at e
  |cons x a=>
   by_cases j:Di (x :: a)=true
   .cases b with
    |nil=>
     cases x with
     |d c=>cases j
     |k=>cases t<;>simp[aA,dA,aZ]at f e
     |p c=>simp[aA,dA,aZ]at e
    |cons y b=>
     cases y with
     |p c=>obtain⟨r,h⟩:=i (x :: a) b t (by simp at g ⊢;omega) f e;exact⟨_,.p j h⟩
     |k=>
      cases x with
      |d c=>cases j
      |k=>
       cases t with
       |nil=>simp[aA,aZ]at f
       |cons z t=>
        simp[aA,aZ,dA]at f e;obtain⟨r,h⟩:=i a b t (by simp at g ⊢;omega) f e;exact⟨_,.kk h⟩
      |p c=>
       simp[aA,aZ,dA]at f e;obtain⟨r,h⟩:=i a b t (by simp at g ⊢;omega) f e;exact⟨_,.pk h⟩
     |d l=>
      cases x with
      |d c=>cases j
      |k=>
       cases t with
       |nil=>simp[aA,aZ]at f
       |cons z t=>
        simp[aA,aZ,dA]at f e;obtain⟨r,h⟩:=i a b t (by simp at g ⊢;omega) f e.2;exact⟨_,.kd h⟩
      |p c=>
       simp[aA,aZ,dA]at f e;obtain⟨rfl,e⟩:=e;obtain⟨r,h⟩:=i a b t (by simp at g ⊢;omega) f e;exact⟨_,.pd h⟩
   .cases x with
    |k=>exact absurd rfl j
    |p c=>exact absurd rfl j
    |d c=>
     cases t with
     |nil=>simp[aA,aZ]at f
     |cons z t=>
      simp[aA,aZ]at f;obtain⟨r,h⟩:=i a b t (by simp at g ⊢;omega) f.2 e;exact⟨_,.d h⟩
def Th.done{a b r:List At}(h:Th a b r):∀t,aZ (aA a) t=true->dA r t=dA b (dA a t):=by
 induction h with
 |nil=>intro t _;rfl
 |d h e=>
  intro t c;cases t with
  |nil=>simp[aA,aZ]at c
  |cons x t=>simp only[aA,aZ,ZJ]at c;simp only[dA];exact e t c.2
 |p _ h e=>intro t c;simp only[dA];rw[e t c]
 |kk h e=>
  intro t c;cases t with
  |nil=>simp[aA,aZ]at c
  |cons x t=>simp only[aA,aZ,ZJ]at c;simp[dA,e t c.2]
 |kd h e=>
  intro t c;cases t with
  |nil=>simp[aA,aZ]at c
  |cons x t=>simp only[aA,aZ,ZJ]at c;simp[dA,e t c.2]
 |pk h e=>intro t c;simp[dA,e t c]
 |pd h e=>intro t c;simp[dA,e t c]
def Th.cost{a b r:List At}(h:Th a b r):cA r<=cA a+cA b:=by induction h<;>simp[cA]<;>omega
def Th.len{a b r:List At}(h:Th a b r):r.length<=a.length+b.length:=by induction h<;>simp<;>omega
theorem Th.ds{b r:List At}:∀{s:List Nat}{a:List At},Th (s.map .d++a) b r->∃r',r=s.map .d++r'/\Th a b r'
 |[],a,h=>⟨r,rfl,h⟩
 |c :: s,a,h=>by
  cases h with
  |d h=>obtain⟨r',rfl,e⟩:=Th.ds h;exact⟨r',rfl,e⟩
  |p f h=>cases f
theorem Th.ps{a r:List At}(hn:Di a=true):∀{s:List Nat}{b:List At},Th a (s.map .p++b) r->∃r',r=s.map .p++r'/\Th a b r'
 |[],b,h=>⟨r,rfl,h⟩
 |c :: s,b,h=>by
  cases h with
  |d h=>cases hn
  |p _ h=>obtain⟨r',rfl,e⟩:=Th.ps hn h;exact⟨r',rfl,e⟩
def Th.WS{a b r:List At}:∀{n:Nat},Th (List.replicate n .k++a) (List.replicate n .k++b) r->∃r',r=List.replicate n .k++r'/\Th a b r':=λ{n}=>by
 induction n generalizing r with
 |zero=>intro h;exact⟨r,rfl,h⟩
 |succ n c=>intro h;cases h with|kk h=>obtain⟨r',rfl,d⟩:=c h;exact⟨r',rfl,d⟩
def Th.WT{a b r:List At}:∀{s:List Nat},Th (List.replicate s.length .k++a) (s.map .d++b) r->∃r',r=s.map .d++r'/\Th a b r':=λ{s}=>by
 induction s generalizing r with
 |nil=>intro h;exact⟨r,rfl,h⟩
 |cons c s e=>intro h;cases h with|kd h=>obtain⟨r',rfl,f⟩:=e h;exact⟨r',rfl,f⟩
def Th.WU{a b r:List At}:∀{s:List Nat},Th (s.map .p++a) (List.replicate s.length .k++b) r->∃r',r=s.map .p++r'/\Th a b r':=λ{s}=>by
 induction s generalizing r with
 |nil=>intro h;exact⟨r,rfl,h⟩
 |cons c s d=>intro h;cases h with|pk h=>obtain⟨r',rfl,e⟩:=d h;exact⟨r',rfl,e⟩
theorem Th.Sw{a b r:List At}:∀{s s':List Nat},s.length=s'.length->Th (s.map .p++a) (s'.map .d++b) r->s=s'/\Th a b r
 |[],[],_,h=>⟨rfl,h⟩
 |[],_ :: _,hl,_=>by simp at hl
 |_ :: _,[],hl,_=>by simp at hl
 |c :: s,c' :: s',hl,h=>by cases h with|pd h=>obtain⟨rfl,e⟩:=Th.Sw (by simpa using hl) h;exact⟨rfl,e⟩
theorem iC:∀(a:List At) (i q:Nat),Tq.at q∈tA i a↔∃j,q=i+j/\(aA a)[j]?=some []
 |[],i,q=>by simp[tA,aA]
 |.k :: a,i,q=>by
  simp only[tA,acy,iC a,aA];constructor
  .rintro(h|⟨j,rfl,h⟩)
   .cases h;exact⟨0,rfl,by simp⟩
   .exact⟨j+1,by omega,by simpa using h⟩
  .rintro⟨j,rfl,h⟩;cases j with
   |zero=>exact .inl rfl
   |succ j=>exact .inr ⟨j,by omega,by simpa using h⟩
 |.d c :: a,i,q=>by
  simp only[tA,iC a,aA];constructor
  .rintro⟨j,rfl,h⟩;exact⟨j+1,by omega,by simpa using h⟩
  .rintro⟨j,rfl,h⟩;cases j with
   |zero=>simp at h
   |succ j=>exact⟨j,by omega,by simpa using h⟩
 |.p c :: a,i,q=>by simp[tA,iC a,aA]
theorem tN:∀{a:List (List Nat)}{t:List Nat},aZ a t=true->∀(j:Nat) x,a[j]?=some x->x=[]\/∃c,t[j]?=some c/\x=[c]
 |y :: a,c :: t,h,j,x,e=>by
  simp only[aZ,ZJ,aau,aaJ]at h;cases j with
  |zero=>simp at e;subst e;exact h.1.imp id λz=>⟨c,by simp,z⟩
  |succ j=>simpa using tN h.2 j x (by simpa using e)
 |[],[],_,j,x,e=>by simp at e
 |[],_ :: _,h,_,_,_=>by simp[aZ]at h
 |_ :: _,[],h,_,_,_=>by simp[aZ]at h
def Dj{a:List At}{A:List (List Nat)}{t:List Nat}(ha:aZ (aA a) t=true)(hb:aZ A t=true)(h:∀q:Nat,Tq.at q∈tA 0 a↔A[q]?=some []):aA a=A:=by
 have l:=qE ha;have o:=qE hb;apply abv;intro j;by_cases p:j<t.length
 .obtain⟨x,hx⟩:∃x,(aA a)[j]?=some x:=⟨_,Rx (by omega)⟩
  obtain⟨y,hy⟩:∃y,A[j]?=some y:=⟨_,Rx (by omega)⟩
  have f:=iC a 0 j;rw[h j,hy]at f;have b:x=[]↔y=[]:=by
   constructor
   .rintro rfl;have:=f.mpr ⟨j,by omega,hx⟩;cases this;rfl
   .rintro rfl;obtain⟨i,r,e⟩:=f.mp rfl;obtain rfl:i=j:=by omega
    rw[e]at hx;cases hx;rfl
  rw[hx,hy];rcases tN ha j x hx with Hf|⟨c,k,WV⟩
  .rw[Hf,b.mp Hf]
  .rcases tN hb j y hy with Sx|⟨z,d,g⟩
   .rw[Sx,b.mpr Sx]
   .rw[k]at d;cases d;rw[WV,g]
 .rw[aac (by omega),aac (by omega)]
def Dk{a b:List At}{t:List Nat}(ha:aZ (aA a) t=true)(hb:aZ (aA b) t=true)(h:tA 0 a=tA 0 b):aA a=aA b:=
 Dj ha hb λq=>by
  rw[h,iC b 0 q];constructor
  .rintro⟨j,hj,e⟩;obtain rfl:q=j:=by omega
   exact e
  .intro e;exact⟨q,by omega,e⟩
def Dl{a b:List Pt}{t:List Nat}(ha:aY a t=true)(hb:aY b t=true)(h:told 0 a=told 0 b):aW a=aW b:=by
 rw[qD];rw[gq]at ha hb;have c:=h;rw[gu]at ha hb;rw[eU,eU]at c;have:=Dk ha hb c;simp only[lR,h,gu,this]
def qG{c:List Pt}{t:List Nat}(h:aY c t=true):(aO c t).length=gH c:=by
 rw[kh (E5 c t h).1,Ox]
end Pv
namespace Pv
open Ev (D bS bM TY BI ME T E Es Eo It S Ss Fn big deep b2i rep cC eK bE aT cut cR ef slots)
noncomputable def xr(eS:Nat)(A3:Nat)(pQ:Nat):Ss:=(.cons (.iff (.an (.v 2) (.cmp .eq (.ix (.ix (.v 2) (.neg (.c (.int 1)))) (.c (.int 0))) (.c (.str [100,114,111,112])))) (.cons (.exp (.me .append (.v 4) (.cons (.me .pop (.v 2) .nil) .nil))) .nil) (.cons (.iff (.an (.v 3) (.cmp .eq (.ix (.ix (.v 3) (.neg (.c (.int 1)))) (.c (.int 0))) (.c (.str [112,117,116])))) (.cons (.exp (.me .append (.v 4) (.cons (.me .pop (.v 3) .nil) .nil))) .nil) (.cons (.set 5 (.bi .min (.cons (.cl eS (.cons (.ix (.v 2) (.neg (.c (.int 1)))) .nil)) (.cons (.cl eS (.cons (.ix (.v 3) (.neg (.c (.int 1)))) .nil)) .nil)))) (.cons (.exp (.me .extend (.v 4) (.cons (.cl A3 (.cons (.cl pQ (.cons (.v 2) (.cons (.v 5) .nil))) (.cons (.cl pQ (.cons (.v 3) (.cons (.v 5) .nil))) .nil))) .nil))) .nil))) .nil)) .nil)
noncomputable def kY(J7:Nat)(E9:Nat)(kX:Nat)(eS:Nat)(A3:Nat)(pQ:Nat):Fn:=⟨2,6,(.cons (.iff (.cmp .ne (.cl J7 (.cons (.v 0) .nil)) (.cl E9 (.cons (.v 1) .nil))) (.cons (.fC 0) .nil) .nil) (.cons (.set 2 (.gP (.rev (.cl kX (.cons (.v 0) .nil))))) (.cons (.set 3 (.gP (.rev (.cl kX (.cons (.v 1) .nil))))) (.cons (.set 4 (.lst .nil)) (.cons (.pY (.orr (.v 2) (.v 3)) (xr eS A3 pQ)) (.cons (.ret (.cl kX (.cons (.iY (.v 4)) .nil))) .nil))))))⟩
noncomputable def sj:Fn:=⟨2,2,(.cons (.iff (.cmp .eq (.ix (.v 1) (.c (.int 0))) (.c (.str [107,101,101,112]))) (.cons (.ret (.lst (.cons (.v 0) .nil))) .nil) .nil) (.cons (.iff (.cmp .eq (.ix (.v 0) (.c (.int 0))) (.c (.str [107,101,101,112]))) (.cons (.ret (.lst (.cons (.v 1) .nil))) .nil) .nil) (.cons (.iff (.cmp .ne (.ix (.v 0) (.c (.int 1))) (.ix (.v 1) (.c (.int 1)))) (.cons (.fC 0) .nil) .nil) (.cons (.ret (.lst .nil)) .nil))))⟩
noncomputable def mY(Fb:Nat)(eS:Nat):Fn:=⟨2,3,(.cons (.set 2 (.cl Fb (.cons (.me .pop (.v 0) .nil) (.cons (.v 1) .nil)))) (.cons (.iff (.cmp .gt (.cl eS (.cons (.ix (.v 2) (.c (.int 1))) .nil)) (.c (.int 0))) (.cons (.exp (.me .append (.v 0) (.cons (.ix (.v 2) (.c (.int 1))) .nil))) .nil) .nil) (.cons (.ret (.ix (.v 2) (.c (.int 0)))) .nil)))⟩
noncomputable def jl:Fn:=⟨2,3,(.cons (.set 2 (.ix (.v 0) (.c (.int 0)))) (.cons (.iff (.cmp .eq (.v 2) (.c (.str [107,101,101,112]))) (.cons (.ret (.tup (.cons (.tup (.cons (.v 2) (.cons (.v 1) .nil))) (.cons (.tup (.cons (.v 2) (.cons (.bin .sub (.ix (.v 0) (.c (.int 1))) (.v 1)) .nil))) .nil)))) .nil) .nil) (.cons (.ret (.tup (.cons (.tup (.cons (.v 2) (.cons (.sl (.ix (.v 0) (.c (.int 1))) .no (.yes (.v 1))) .nil))) (.cons (.tup (.cons (.v 2) (.cons (.sl (.ix (.v 0) (.c (.int 1))) (.yes (.v 1)) .no) .nil))) .nil)))) .nil)))⟩
noncomputable def Pt.tk(m:Nat):Pt->Pt
 |.keep _=>.keep m
 |.put s=>.put (s.take m)
 |.drop s=>.drop (s.take m)
noncomputable def Pt.dp(m:Nat):Pt->Pt
 |.keep k=>.keep (k - m)
 |.put s=>.put (s.drop m)
 |.drop s=>.drop (s.drop m)
def Hg{α:Type}(l:List α)(m:Nat):cut l none (some (m:Int))=l.take m:=by
 have a:¬ (m:Int)<0:=by omega
 simp only[cut,aT,a,aaH,abw,aaA,Nat.sub_zero];by_cases h:m<=l.length
 .rw[abf h]
 .rw[abZ (by omega),aaj (ZO _),aaj (by omega)]
def Hi{α:Type}(l:List α)(m:Nat):cut l (some (m:Int)) none=l.drop m:=by
 have a:¬ (m:Int)<0:=by omega
 simp only[cut,aT,a,aaH,abw];by_cases h:m<=l.length
 .rw[abf h,aaj (by simp)]
 .rw[abZ (by omega),aaN (ZO _),aaN (by omega)];simp
section
variable{F:List Fn}{w n cQ aN di bR cz bU dI cJ i:Nat}
def A4(hf:F[i]?=some jl)(p:Pt)(m:Nat)(h:m<=p.n):run F w (n+1) i [.val p.v,.val (.int m)]=some (.tup [(p.tk m).v,(p.dp m).v],[]):=by
 refine bX hf rfl ?_;cases p with
 |keep k=>
  refine ai (bD (by repeat array_get_dec) rfl rfl ?_);refine ai (aL (by repeat array_get_dec) (λ_=>?_) λh=>absurd h (by decide));refine ai (bN (by repeat array_get_dec) ⟨?_,rfl⟩);have:(k:Int) - m=((k - m:Nat):Int):=by simp only[Pt.n]at h;omega
  exact Z0 (λz=>Fl.ret (V.tup [V.tup [V.str eB,V.int m],V.tup [V.str eB,V.int z]])) this
 |put s=>
  have a:ir (.str s) none (some (m:Int))=some (.str (s.take m)):=by rw[jg,Hg]
  have b:ir (.str s) (some (m:Int)) none=some (.str (s.drop m)):=by rw[jg,Hi]
  refine ai (bD (by repeat array_get_dec) rfl rfl ?_);refine ai (aL (by repeat array_get_dec) (zb ·) λ_=>az ?_);exact ai (bN (by repeat array_get_dec) ⟨rfl,rfl⟩)
 |drop s=>
  have a:ir (.str s) none (some (m:Int))=some (.str (s.take m)):=by rw[jg,Hg]
  have b:ir (.str s) (some (m:Int)) none=some (.str (s.drop m)):=by rw[jg,Hi]
  refine ai (bD (by repeat array_get_dec) rfl rfl ?_);refine ai (aL (by repeat array_get_dec) (zb ·) λ_=>az ?_);exact ai (bN (by repeat array_get_dec) ⟨rfl,rfl⟩)
def tO(m:Nat)(p:Pt):(p.dp m).n=p.n - m:=by cases p<;>simp[Pt.dp,Pt.n]
def uH(hs:F[aN]?=some fE)(hp:F[cQ]?=some jl)(hf:F[i]?=some (mY cQ aN))(L:List V)(p:Pt)(m:Nat)(h:m<=p.n)(hn:p.n<=100000)(hL:L.length<=10000) :
  run F w (n+2) i [.bor (L++[p.v]),.val (.int m)]=some ((p.tk m).v,[L++if 0<p.n - m then [(p.dp m).v]else []]):=by
 refine bX hf rfl ?_;have b:=λfr=>call2 (fr:=fr) (A4 (F:=F) (w:=w) (n:=n) hp p m h);have c:=λfr=>gD (fr:=fr) (kW (F:=F) (w:=w) (n:=n) hs (p.dp m) (by rw[tO];omega));have d:∀fr:Fr,gU .pop 0 [] fr (some (some (.bor (L++[p.v]))))=.ok p.v (fr.set 0 (some (.bor L))):=λfr=>JX;have e:∀fr:Fr,gU .append 0 [(p.dp m).v] fr (some (some (.bor L)))=.ok .aV (fr.set 0 (some (.bor (L++[(p.dp m).v])))):=λfr=>JV (by omega);refine ai (bD (by (repeat (first|array_get_dec|exact d _|exact b _))) rfl rfl ?_);refine ai (aL (by (repeat (first|array_get_dec|exact c _))) (λh=>?_) λh=>?_)
 .have a:=aag h;rw[tO]at a;rw[xC (by omega)];refine ai (cS (by (repeat (first|array_get_dec|exact e _))) (az ?_));exact ai (bN (by repeat array_get_dec) ⟨rfl,rfl⟩)
 .have a:=aaO h;rw[tO]at a;rw[ZS (by omega),aaf];exact az (ai (bN (by repeat array_get_dec) ⟨rfl,rfl⟩))
noncomputable def nK:Pt->Pt->Option (List Pt)
 |l,.keep _=>some [l]
 |.keep _,g=>some [g]
 |.put s,.drop s'=>if s=s' then some []else none
 |_,_=>none
def J8(hf:F[i]?=some sj)(p q:Pt)(r:List Pt)(h:nK p q=some r):run F w (n+1) i [.val p.v,.val q.v]=some (.lst (r.map Pt.v),[]):=by
 refine bX hf rfl ?_;cases q with
 |keep k=>
  simp only[nK,abt]at h;subst h;refine ai (aL (by repeat array_get_dec) (λ_=>?_) λh=>absurd h (by decide));exact ai (bN (by repeat array_get_dec) ⟨rfl,rfl⟩)
 |put s=>
  cases p<;>simp[nK]at h
  subst h;refine ai (aL (by repeat array_get_dec) (zb ·) λ_=>az ?_);refine ai (aL (by repeat array_get_dec) (λ_=>?_) λh=>absurd h (by decide));exact ai (bN (by repeat array_get_dec) ⟨rfl,rfl⟩)
 |drop b=>
  cases p with
  |keep k=>
   simp only[nK,abt]at h;subst h;refine ai (aL (by repeat array_get_dec) (zb ·) λ_=>az ?_);refine ai (aL (by repeat array_get_dec) (λ_=>?_) λh=>absurd h (by decide));exact ai (bN (by repeat array_get_dec) ⟨rfl,rfl⟩)
  |drop s=>simp[nK]at h
  |put s=>
   simp only[nK]at h;split at h
   .rename_i a;subst a;cases h;refine ai (aL (by repeat array_get_dec) (zb ·) λ_=>az ?_);refine ai (aL (by repeat array_get_dec) (zb ·) λ_=>az ?_);refine ai (aL (by repeat array_get_dec) (λh=>?_) λ_=>az ?_)
    .simp at h
    .exact ai (bN (by repeat array_get_dec) ⟨rfl,rfl⟩)
   .cases h
def jm{l:List V}{v:V}:eX (.lst (l++[v])) (.int (-1))=some v:=by rw[JB,rM];simp
def lT{l:List V}{v:V}:truthy (.lst (l++[v]))=true:=by simp
def Hj{P:aQ}{f i:Nat}{fr:Fr}{b v:V}{l l':List V}(e:fr[i]?=some (some (.own l)))(h:P f [.bor l,.val b]=some (v,[l'])):b8 P f [.inl i,.inr b] fr=.ok v (fr.set i (some (.own l'))):=by
 have a:lent fr i=some (.bor l):=by rw[JR,e];rfl
 simp[b8,bh,args,a,h,back,e,Sl.with]
def ko{c:List Pt}(h:oX c=true):∀p∈c,0<p.n:=λp a=>by
 simp only[oX,ZJ,List.all_eq_true]at h;have:=h.2 p a;simp only[Ow,bne_iff_ne,ne_eq]at this;omega
theorem jn:∀{c:List Pt},(∀p∈c,0<p.n)->c.length<=tot c
 |[],_=>by simp[tot]
 |p :: c,h=>by
  have b:=h p (by simp);have d:=jn (c:=c) λq a=>h q (by simp[a]);rw[cE,ZU];omega
def A5{p:Pt}{m:Nat}(h:m<=p.n):(p.tk m).aS++(p.dp m).aS=p.aS/\(p.tk m).n=m:=by
 cases p with
 |keep k=>simp only[Pt.n]at h;simp[Pt.tk,Pt.dp,Pt.aS,Pt.n,h]
 |put s=>simp only[Pt.n]at h;simp[Pt.tk,Pt.dp,Pt.aS,Pt.n,h,<-ZZ]
 |drop s=>simp only[Pt.n]at h;simp[Pt.tk,Pt.dp,Pt.aS,Pt.n,h,<-ZZ]
noncomputable def lU(m:Nat)(p:Pt):List Pt:=if 0<p.n - m then [p.dp m]else []
def zB{p:Pt}{m:Nat}(h:m<=p.n):p.aS=(p.tk m).aS++aS (lU m p):=by
 rw[<- (A5 h).1]
 congr 1
 unfold lU;split
 .simp[aS]
 .rename_i a;have:(p.dp m).aS.length=0:=by rw[xo,tO];omega
  rw[List.length_eq_zero_iff.mp this];rfl
def zC(m:Nat)(p:Pt):∀q∈lU m p,0<q.n:=λq a=>by
 unfold lU at a;split at a
 .simp at a;subst a;rw[tO];omega
 .simp at a
def J9(m:Nat)(p:Pt)(A:List Pt):((lU m p++A).map Pt.v).reverse=(A.map Pt.v).reverse++if 0<p.n - m then [(p.dp m).v]else []:=by
 unfold lU;split<;>simp
def pR(m:Nat)(p:Pt):tot (lU m p)=p.n - m:=by
 unfold lU;split
 .simp[tot,tO]
 .simp[tot];omega
def zD{m:Nat}{p:Pt}:dX (p.tk m)=dX p/\iW (p.tk m)=iW p:=by cases p<;>exact⟨rfl,rfl⟩
def OA{A B r:List At}(p q:Pt)(hp:dX p=false)(hq:iW q=false)(hn:p.n=q.n)(h:Th (p.aS++A) (q.aS++B) r):∃m r',nK p q=some m/\m.length<=1/\r=aS m++r'/\Th A B r':=by
 cases p with
 |drop s=>cases hp
 |keep k=>
  cases q with
  |put s=>cases hq
  |keep b=>simp only[Pt.n]at hn;subst hn;obtain⟨r',rfl,a⟩:=Th.WS h;exact⟨[.keep k],r',rfl,by simp,by simp[aS,Pt.aS],a⟩
  |drop s=>simp only[Pt.n]at hn;subst hn;obtain⟨r',rfl,a⟩:=Th.WT h;exact⟨[.drop s],r',rfl,by simp,by simp[aS,Pt.aS],a⟩
 |put s=>
  cases q with
  |put c=>cases hq
  |keep b=>simp only[Pt.n]at hn;subst hn;obtain⟨r',rfl,a⟩:=Th.WU h;exact⟨[.put s],r',rfl,by simp,by simp[aS,Pt.aS],a⟩
  |drop c=>simp only[Pt.n]at hn;obtain⟨rfl,a⟩:=Th.Sw hn h;exact⟨[],r,by simp[nK],by simp,by simp[aS],a⟩
structure Tn(one other c:List Pt)(t:List Nat):Prop where
 yr:aW c=c
 fit:aY c t=true
 dn:aO c t=aO other (aO one t)
 OB:told 0 c=(told 0 other).map (sub (told 0 one))
 X7:told 0 (sw c)=(told 0 (sw one)).map (sub (told 0 (sw other)))
 cs:cst c<=cst one+cst other
 tt:tot c<=tot one+tot other
 ln:c.length<=tot c
 th:∃ps,c=aW ps/\Th (aS (aW one)) (aS (aW other)) (aS ps)
def Rw{one other ps:List Pt}{t:List Nat}(h1:aY one t=true)(h2:aY other (aO one t)=true)(h:Th (aS (aW one)) (aS (aW other)) (aS ps)):Tn one other (aW ps) t:=by
 have f1:aZ (aA (aS (aW one))) t=true:=by rw[<-gu,gp,<-gq];exact h1
 have f2:aZ (aA (aS (aW other))) (dA (aS (aW one)) t)=true:=by rw[<-gu,gp,<-fc,iB,<-gq];exact h2
 have b:=h.back 0 0 [] rfl;rw[<-xq,<-xq,<-xq,<-eU,<-eU,<-eU]at b;have a:∀c i,told i (sw (aW c))=told i (sw c):=λc i=>by
  have:=Z0 (told i) (J5 (lS c));rwa [eH,eH]at this
 refine⟨lS _,?_,?_,?_,?_,?_,?_,jn (ko (jk _)),ps,rfl,h⟩
 .rw[xg,gq,gu];exact h.fit t f1 f2
 .rw[iB,fc,h.done t f1,<-fc,iB,<-fc,iB]
 .have:=h.told 0 0 [] rfl;rw[<-eU,<-eU,<-eU,eH,eH]at this;rw[eH];exact this
 .rw[a,<-a one,<-a other];exact b
 .have:=h.cost;rw[<-pP,<-pP,<-pP,qC,qC]at this;rw[qC];exact this
 .have:=h.len;rw[kj,kj,kj,g8,g8]at this;rw[g8];exact this
section
variable(hs:F[aN]?=some fE)(hp:F[cQ]?=some jl)(ht:F[bR]?=some (mY cQ aN))(hm:F[di]?=some sj){one other:List Pt}{r:List At}{N:Nat}(hN:N<=5000)
noncomputable def gb(one other A B C:List Pt)(a:Option Sl):Fr:=[some (.val (bf one)),some (.val (bf other)),some (.own (A.map Pt.v).reverse),some (.own (B.map Pt.v).reverse),some (.own (C.map Pt.v)),a]
inductive OC(one other:List Pt)(r:List At)(N k:Nat)(fr:Fr):Prop
 |mk (A B C:List Pt) (r':List At) (a:Option Sl) (c0:Th (aS A) (aS B) r') (c1:aS C++r'=r) (c2:∀p∈A,0<p.n) (c3:∀p∈B,0<p.n) (c4:C.length+k<=N) (c5:k=tot A+tot B) (c6:vo a) (c7:fr=gb one other A B C a):OC one other r N k fr
include hs hp ht hm hN
noncomputable def Dm(aN di bR:Nat):Ss:=(.cons (.set 5 (.bi .min (.cons (.cl aN (.cons (.ix (.v 2) (.neg (.c (.int 1)))) .nil)) (.cons (.cl aN (.cons (.ix (.v 3) (.neg (.c (.int 1)))) .nil)) .nil)))) (.cons (.exp (.me .extend (.v 4) (.cons (.cl di (.cons (.cl bR (.cons (.v 2) (.cons (.v 5) .nil))) (.cons (.cl bR (.cons (.v 3) (.cons (.v 5) .nil))) .nil))) .nil))) .nil))
noncomputable def xu(aN di bR:Nat):Ss:=.cons (.iff (.an (.v 3) (.cmp .eq (.ix (.ix (.v 3) (.neg (.c (.int 1)))) (.c (.int 0))) (.c (.str [112,117,116])))) (.cons (.exp (.me .append (.v 4) (.cons (.me .pop (.v 3) .nil) .nil))) .nil) (Dm aN di bR)) .nil
def xw(one other:List Pt)(r:List At)(N t:Nat)(g:Fl)(fr:Fr):Prop:=g=.nx/\∃j,j<t/\OC one other r N j fr
omit hs hp ht hm hN in
theorem Dn{C:List Pt}(lC:C.length<=5000)(d:Pt)(fr:Fr):gU .append 4 [d.v] fr (some (some (.own (C.map Pt.v))))=.ok .aV (fr.set 4 (some (.own ((C++[d]).map Pt.v)))):=by
 rw[ZZ];exact j9 (by simp;omega)
omit hs hp ht hm in
theorem xx(A B C:List Pt)(s:List Nat)(r':List At)(a:Option Sl)(h:Th (aS A) (aS (.put s :: B)) r')(hn:Di (aS A)=true)(hC:aS C++r'=r)(hA:∀p∈A,0<p.n)(hB:∀p∈(.put s :: B),0<p.n)(hk:C.length+(tot A+tot (.put s :: B))<=N)(ha:vo a) :
  Wp (exs (run F w (n+2)) w (xu aN di bR) (gb one other A (.put s :: B) C a)) (xw one other r N (tot A+tot (.put s :: B))):=by
 have b:C.length<=5000:=by omega
 rw[dF]at h;obtain⟨c,d,e⟩:=Th.ps hn h;have f:=hB (.put s) (by simp);unfold gb;rw[ZT,Z3];refine ai (aL (gW (aE rfl (aB rfl) lT) (by (repeat (first|array_get_dec|exact jm)))) (λ_=>?_) λh=>absurd h (by decide));refine ai (cS (by (repeat (first|array_get_dec|exact tG|exact Dn b _ _))) (az (az ?_)));refine⟨rfl,tot A+tot B,by rw[cE];omega,A,B,C++[.put s],c,a,e,?_,hA,λx g=>hB x (by simp[g]),?_,rfl,ha,rfl⟩
 .rw[<-hC,d,ki];simp[aS,Pt.aS]
 .rw[cE]at hk;simp;omega
omit hN in
theorem OD(A B C mm:List Pt)(p q:Pt)(m:Nat)(a:Option Sl)(mn:dS .min [.int p.n,.int q.n]=some (.int m))(hm1:m<=p.n)(hm2:m<=q.n)(lp:p.n<=5000)(lq:q.n<=5000)(lA:A.length<=5000)(lB:B.length<=5000)(lC:C.length+mm.length<=10000)(e1:nK (p.tk m) (q.tk m)=some mm)(ha:vo a)(Q:Fl->Fr->Prop)
  (hQ:Q .nx (gb one other (lU m p++A) (lU m q++B) (C++mm) (some (.val (.int m))))):Wp (exs (run F w (n+2)) w (Dm aN di bR) (gb one other (p :: A) (q :: B) C a)) Q:=by
 have d:=λfr=>gD (fr:=fr) (kW (F:=F) (w:=w) (n:=n+1) hs p (Z2 lp (by decide)));have e:=λfr=>gD (fr:=fr) (kW (F:=F) (w:=w) (n:=n+1) hs q (Z2 lq (by decide)));have b:=uH (F:=F) (w:=w) (n:=n) hs hp ht (A.map Pt.v).reverse p m hm1 (by omega) (by simp;omega);have c:=uH (F:=F) (w:=w) (n:=n) hs hp ht (B.map Pt.v).reverse q m hm2 (by omega) (by simp;omega);rw[<-J9]at b c;have f:=λfr=>call2 (fr:=fr) (J8 (F:=F) (w:=w) (n:=n+1) hm _ _ mm e1);have ex:∀fr:Fr,gU .extend 4 [.lst (mm.map Pt.v)] fr (some (some (.own (C.map Pt.v))))=.ok .aV (fr.set 4 (some (.own ((C++mm).map Pt.v)))):=λfr=>by
  rw[ZZ];exact zo (by simp;omega)
 unfold gb at hQ ⊢;rw[ZT,Z3,ZT,Z3];refine ai (bD (by (repeat (first|array_get_dec|exact jm|exact d _|exact e _))) rfl (kT rfl ha) ?_);exact ai (cS (by (repeat (first|array_get_dec|exact Hj rfl b|exact Hj rfl c|exact f _|exact ex _))) (az hQ))
theorem Fc(A B C:List Pt)(p q:Pt)(r':List At)(a:Option Sl)(hd:dX p=false)(hq:iW q=false)(h:Th (aS (p :: A)) (aS (q :: B)) r')(hC:aS C++r'=r)(hA:∀x∈p :: A,0<x.n)(hB:∀x∈q :: B,0<x.n)(hk:C.length+(tot (p :: A)+tot (q :: B))<=N)(ha:vo a) :
  Wp (exs (run F w (n+2)) w (xu aN di bR) (gb one other (p :: A) (q :: B) C a)) (xw one other r N (tot (p :: A)+tot (q :: B))):=by
 have f:=hA p (by simp);have X8:=hB q (by simp);obtain⟨m,hm1,hm2,Yb⟩:∃m:Nat,m<=p.n/\m<=q.n/\(m=p.n\/m=q.n):=⟨min p.n q.n,by omega,by omega,by omega⟩
 have g:dS .min [.int p.n,.int q.n]=some (.int m):=by
  rw[NP];split
  .congr 2;omega
  .congr 2;omega
 rw[cE,cE]at hk;have G:=jn (c:=A) λx b=>hA x (by simp[b]);have H:=jn (c:=B) λx b=>hB x (by simp[b]);have j:Th ((p.tk m).aS++aS (lU m p++A)) ((q.tk m).aS++aS (lU m q++B)) r':=by
  rw[ki,ki,<-aap,<-aap,<-zB hm1,<-zB hm2,<-dF,<-dF];exact h
 obtain⟨e,l,o,I,y,z⟩:=OA (p.tk m) (q.tk m) (by rw[zD.1];exact hd) (by rw[zD.2];exact hq) (by rw[(A5 hm1).2,(A5 hm2).2]) j;have fin:xw one other r N (tot (p :: A)+tot (q :: B)) .nx (gb one other (lU m p++A) (lU m q++B) (C++e) (some (.val (.int m)))):=by
  refine⟨rfl,_,?_,_,_,_,l,_,z,?_,?_,?_,?_,rfl,.val,rfl⟩
  .rw[fF,fF,pR,pR,cE,cE];omega
  .rw[ki,aap,<-y];exact hC
  .intro x b;rcases List.mem_append.mp b with b|b
   .exact zC m p x b
   .exact hA x (ZY _ b)
  .intro x b;rcases List.mem_append.mp b with b|b
   .exact zC m q x b
   .exact hB x (ZY _ b)
  .rw[fF,fF,pR,pR,ZX];omega
 have d:=OD (one:=one) (other:=other) (w:=w) (n:=n) hs hp ht hm A B C e p q m a g hm1 hm2 (by omega) (by omega) (by omega) (by omega) (by omega) o ha _ (show nx (run F w (n+2)) w .nil (xw one other r N (tot (p :: A)+tot (q :: B))) .nx _ from az fin);unfold gb at d ⊢;rw[ZT,Z3,ZT,Z3]at d ⊢;cases q with
 |put s=>cases hq
 |keep k=>exact ai (aL (gW (aE rfl (aB rfl) lT) (by (repeat (first|array_get_dec|exact jm)))) (zb ·) λ_=>d)
 |drop s=>exact ai (aL (gW (aE rfl (aB rfl) lT) (by (repeat (first|array_get_dec|exact jm)))) (zb ·) λ_=>d)
omit hs hp ht hm hN in
theorem Sy{b r:List At}{x:At}(h:Th [] (x :: b) r):∃c,x=.p c:=by cases h with|p=>exact⟨_,rfl⟩
omit hs hp ht hm hN in
theorem Sz{a r:List At}{x:At}(h:Th (x :: a) [] r):∃c,x=.d c:=by cases h with|d=>exact⟨_,rfl⟩
theorem Dp(A B C:List Pt)(r':List At)(a:Option Sl)(hne:A≠[]\/B≠[])(h:Th (aS A) (aS B) r')(hC:aS C++r'=r)(hA:∀p∈A,0<p.n)(hB:∀p∈B,0<p.n)(hk:C.length+(tot A+tot B)<=N)(ha:vo a) :
  Wp (exs (run F w (n+2)) w (xr aN di bR) (gb one other A B C a)) (xw one other r N (tot A+tot B)):=by
 cases A with
 |nil=>
  cases B with
  |nil=>exact absurd hne (by simp)
  |cons q B'=>
   refine ai (aL (rQ (aE rfl (aB rfl) rfl)) (zb ·) λ_=>?_);have f:=hB q (by simp);cases q with
   |put s=>exact(xx hN [] B' C s r' a h rfl hC hA hB hk ha).mono λg z ⟨o,l⟩=>by subst o;exact az ⟨rfl,l⟩
   |keep k=>
    rw[dF]at h;cases k with
    |zero=>exact absurd f (aah 0)
    |succ k=>obtain⟨c,e⟩:=Sy (x:=.k) h;cases e
   |drop s=>
    rw[dF]at h;cases s with
    |nil=>exact absurd f (aah 0)
    |cons c s=>obtain⟨c,e⟩:=Sy (x:=.d c) h;cases e
 |cons p A'=>
  have b:=hA p (by simp);cases hd:dX p with
  |true=>
   cases p with
   |keep k=>cases hd
   |put s=>cases hd
   |drop s=>
    have G:C.length<=5000:=by omega
    rw[dF]at h;obtain⟨H,I,J⟩:=Th.ds h;unfold gb;rw[ZT,Z3];refine ai (aL (gW (aE rfl (aB rfl) lT) (by (repeat (first|array_get_dec|exact jm)))) (λ_=>?_) λh=>absurd h (by decide));refine ai (cS (by (repeat (first|array_get_dec|exact tG|exact Dn G _ _))) (az (az ?_)));refine⟨rfl,tot A'+tot B,by rw[cE];omega,A',B,C++[.drop s],H,a,J,?_,λx l=>hA x (by simp[l]),hB,?_,rfl,ha,rfl⟩
    .rw[<-hC,I,ki];simp[aS,Pt.aS]
    .rw[cE]at hk;simp;omega
  |false=>
   have j:Wp (exs (run F w (n+2)) w (xu aN di bR) (gb one other (p :: A') B C a)) (xw one other r N (tot (p :: A')+tot B)):=by
    cases B with
    |nil=>
     exfalso;rw[dF]at h;cases p with
     |drop s=>cases hd
     |keep k=>cases k with|zero=>exact absurd b (aah 0)|succ k=>obtain⟨c,e⟩:=Sz (x:=.k) h;cases e
     |put s=>cases s with|nil=>exact absurd b (aah 0)|cons c s=>obtain⟨c,e⟩:=Sz (x:=.p c) h;cases e
    |cons q B'=>
     cases f:iW q with
     |true=>
      have y:Di (aS (p :: A'))=true:=by
       rw[dF];cases p with
       |drop s=>cases hd
       |keep k=>cases k<;>first|exact absurd b (aah 0)|rfl
       |put s=>cases s<;>first|exact absurd b (aah 0)|rfl
      cases q with
      |keep k=>cases f
      |drop s=>cases f
      |put s=>exact xx hN (p :: A') B' C s r' a h y hC hA hB hk ha
     |false=>exact Fc hs hp ht hm hN A' B' C p q r' a hd f h hC hA hB hk ha
   replace j:=j.mono (Q':=nx (run F w (n+2)) w .nil (xw one other r N (tot (p :: A')+tot B))) λg z ⟨o,l⟩=>by subst o;exact az ⟨rfl,l⟩
   unfold gb at j ⊢;rw[ZT,Z3]at j ⊢;cases p with
   |drop s=>cases hd
   |keep k=>exact ai (aL (gW (aE rfl (aB rfl) lT) (by (repeat (first|array_get_dec|exact jm)))) (zb ·) λ_=>j)
   |put s=>exact ai (aL (gW (aE rfl (aB rfl) lT) (by (repeat (first|array_get_dec|exact jm)))) (zb ·) λ_=>j)
omit hN in
theorem Fd(hst:F[bU]?=some gn)(hf:F[cz]?=some (mV bU))(hb:F[cJ]?=some (kU aN))(ha:F[dI]?=some (mU aN))(xy:F[i]?=some (kY dI cJ cz aN di bR))(hw:5000<w)
  (one other:List Pt) (t:List Nat) (h1:aY one t=true) (h2:aY other (aO one t)=true) (b1:tot one<=2000) (b2:tot other<=2000) (l1:one.length<=2000) (l2:other.length<=2000) :
  ∃c,run F w (n+3) i [.val (bf one),.val (bf other)]=some (bf c,[])/\Tn one other c t:=by
 have f1:aZ (aA (aS (aW one))) t=true:=by rw[<-gu,gp,<-gq];exact h1
 have f2:aZ (aA (aS (aW other))) (dA (aS (aW one)) t)=true:=by rw[<-gu,gp,<-fc,iB,<-gq];exact h2
 obtain⟨r,d⟩:=Th.all _ _ _ t (ZO _) f1 f2;have G:gH one=bu other:=by rw[<-qG h1,kh h2]
 have ne:cop .ne (.int (gH one)) (.int (bu other))=some false:=by rw[GW,G];simp
 have H:=λfr=>gD (fr:=fr) (C1 (F:=F) (w:=w) (n:=n) hs ha one (by omega) (by omega));have I:=λfr=>gD (fr:=fr) (AV (F:=F) (w:=w) (n:=n) hs hb other (by omega) (by omega));have J:=λfr=>gD (fr:=fr) (nE (F:=F) (w:=w) (n:=n) hst hf one (by omega) (by omega));have K:=λfr=>gD (fr:=fr) (nE (F:=F) (w:=w) (n:=n) hst hf other (by omega) (by omega));have t1:=g8 one;have t2:=g8 other;have g1:=jn (ko (jk one));have g2:=jn (ko (jk other));have L:fq ((aW one).map Pt.v).reverse=some (.lst ((aW one).map Pt.v).reverse):=gT (cL (by simp;omega));have M:fq ((aW other).map Pt.v).reverse=some (.lst ((aW other).map Pt.v).reverse):=gT (cL (by simp;omega));have f:Wp (exs (run F w (n+2)) w (kY dI cJ cz aN di bR).body (dz (kY dI cJ cz aN di bR) [.val (bf one),.val (bf other)])) λg fr=>∃ps,aS ps=r/\g=.ret (bf (aW ps))/\outs 2 fr=[]:=by
  refine ai (aL (by (repeat (first|array_get_dec|exact H _|exact I _))) (zb ·) λ_=>az ?_);refine ai (iV (l:=((aW one).map Pt.v).reverse) (u5 (CV (cZ (aX rfl (aB rfl) aJ) (J _)) rfl) L) rfl rfl ?_);refine ai (iV (l:=((aW other).map Pt.v).reverse) (u5 (CV (cZ (aX rfl (aB rfl) aJ) (K _)) rfl) M) rfl rfl ?_);refine ai (iV (l:=[]) (by repeat array_get_dec) rfl rfl ?_);refine ai (Rk (wI (OC one other r (tot one+tot other)) (λk fr P=>?_) w (tot one+tot other) _ (by omega) ⟨aW one,aW other,[],r,none,d,rfl,ko (jk one),ko (jk other),by simp,by omega,.none,rfl⟩));obtain⟨A,B,C,Q,a,z,j,W,X,hk,o,SA,rfl⟩:=P;by_cases b:A≠[]\/B≠[]
  .have x:aM (run F w (n+2)) (.orr (.v 2) (.v 3)) (gb one other A B C a)=.ok true (gb one other A B C a):=by
    cases A with
    |cons p A=>unfold gb;rw[ZT,Z3];exact CU (aE rfl (aB rfl) lT)
    |nil=>
     cases B with
     |nil=>simp at b
     |cons q B=>unfold gb;rw[ZT,Z3];exact iR (aE rfl (aB rfl) rfl) (aE rfl (aB rfl) lT)
   refine⟨true,_,x,?_⟩;dsimp only;rw[xC rfl];refine(Dp hs hp ht hm (N:=tot one+tot other) (by omega) A B C Q a b z j W X (by omega) SA).mono λg fr ⟨Y,Z⟩=>?_;subst Y o;exact Z
  .obtain⟨rfl,rfl⟩:A=[]/\B=[]:=by simpa using b
   refine⟨false,_,iR (aE rfl (aB rfl) rfl) (aE rfl (aB rfl) rfl),?_⟩;dsimp only;rw[ZS (by decide)];cases z;rw[aaf]at j;subst j;have lC:=d.len;rw[kj,kj,kj]at lC;have mt:toT (.lst (C.map Pt.v))=some (bf C):=by rw[zh];exact kM (cL (by simp;omega))
   have c5:=λfr=>gD (fr:=fr) (nE (F:=F) (w:=w) (n:=n) hst hf C (by omega) (by omega));have sh:gh (gb one other [] [] C a)=[some (.val (bf one)),some (.val (bf other)),some (.val (.lst [])),some (.val (.lst [])),some (.val (.lst (C.map Pt.v))),a]:=by
    show _ :: _ :: _ :: _ :: _ :: [a.map Sl.eZ]=_;rw[dR SA];rfl
   refine ai (bN (v:=bf (aW C)) (af:=[some (.val (bf one)),some (.val (bf other)),some (.val (.lst [])),some (.val (.lst [])),some (.val (.lst (C.map Pt.v))),a]) ?_ ⟨C,rfl,rfl,rfl⟩);rw[sh];exact cZ (aX rfl (u6 (aB rfl) mt) aJ) (c5 _)
 obtain⟨g,fr,e,ps,y,rfl,ho⟩:=f;refine⟨aW ps,?_,Rw h1 h2 (y▸d)⟩;rw[run_eq xy rfl,e];simp only[JF];rw[show outs (kY dI cJ cz aN di bR).np fr=[]from ho]
end
end
section
def Ch:List Nat->List (List Pt)->Prop
 |_,[]=>True
 |t,c :: rs=>aY c t=true/\Ch (aO c t) rs
noncomputable def fy(t:List Nat)(rs:List (List Pt)):List Nat:=rs.foldl (λs c=>aO c s) t
noncomputable def eE(rs:List (List Pt)):Nat:=(rs.map tot).sum
def Ka(t:List Nat)(p q:List (List Pt)):fy t (p++q)=fy (fy t p) q:=by simp[fy]
theorem xA{t:List Nat}:∀{p q:List (List Pt)},Ch t (p++q)↔Ch t p/\Ch (fy t p) q
 |[],q=>⟨λh=>⟨trivial,h⟩,λh=>h.2⟩
 |c :: p,q=>by
  show(aY c t=true/\Ch (aO c t) (p++q))↔(aY c t=true/\Ch (aO c t) p)/\Ch (fy (aO c t) p) q;rw[xA,and_assoc]
def Va{a b:List Pt}{t:List Nat}(fa:aW a=a)(fb:aW b=b)(ha:aY a t=true)(hb:aY b t=true)(h:told 0 a=told 0 b):a=b:=by rw[<-fa,<-fb];exact Dl ha hb h
end
end Pv
namespace Pv
open Ev (deep big rep cut bE)
theorem sq:∀(a b:List At) (t:List Nat),dA (a++b) t=dA a (t.take (aA a).length)++dA b (t.drop (aA a).length)
 |[],b,t=>by simp[dA,aA]
 |.k :: a,b,t=>by
  simp only[aav,dA,aA,ZU,sq a b];cases t with
  |nil=>simp
  |cons c t=>simp
 |.d c :: a,b,t=>by
  simp only[aav,dA,aA,ZU,sq a b];cases t with
  |nil=>simp
  |cons c t=>simp
 |.p c :: a,b,t=>by simp only[aav,dA,aA,sq a b]
section
variable{c:List Pt}
def xB(c:List Pt):bu c=(aA (aS c)).length:=by rw[<-gu,qB]
end
end Pv
namespace Pv
open Ev (D bS bM TY BI ME T E Es Eo It S Ss Fn big deep rep cut bE)
def Ry(n i:Nat):tA i (List.replicate n .k)=(List.range n).map λj=>Tq.at (i+j):=by
 have:=eU [.keep n] i;simp only[aS,Pt.aS,List.flatMap_cons,List.flatMap_nil,aaf]at this;rw[<-this];simp[told,Pt.told]
abbrev Row:=List Nat×List Pt
noncomputable def bW(r:Row):V:=.tup [.str r.1,bf r.2]
noncomputable def cH(rs:List Row):List (List Pt):=rs.map Prod.snd
def tP(a b:List Row):cH (a++b)=cH a++cH b:=ZZ
noncomputable def who(st:List V)(o:List Nat):Tq->V
 |.at i=>st.getD i .aV
 |.sg _=>.str o
noncomputable def nS(st:List V)(r:Row):List V:=(told 0 r.2).map (who st r.1)
noncomputable def ows(st:List V)(rs:List Row):List V:=rs.foldl nS st
def Kd(st:List V)(a b:List Row):ows st (a++b)=ows (ows st a) b:=by simp[ows]
def Ke(st:List V)(r:Row):(nS st r).length=gH r.2:=by simp[nS,nG]
def Kf{c:List Pt}{i:Nat}(h:Tq.at i∈told 0 c):i<bu c:=by
 rw[eU]at h;obtain⟨j,rfl,a⟩:=(iC (aS c) 0 i).mp h;have:=(List.getElem?_eq_some_iff.mp a).1;rw[<-xB]at this;omega
def Kg{a c X:List Pt}{st:List V}{o:List Nat}(h:bu c=gH a)(hX:told 0 X=(told 0 c).map (sub (told 0 a))):nS st (o,X)=nS (nS st (o,a)) (o,c):=by
 unfold nS;rw[hX,abD];refine acA λx e=>?_;cases x with
 |sg d=>rfl
 |«at» i=>
  have b:=Kf e;rw[h,<-nG a 0]at b;simp[Function.comp,sub,who,List.getD,Rx b]
theorem Hl:∀{a:List At},cA a=0->a=List.replicate (aA a).length .k
 |[],_=>rfl
 |.k :: a,h=>by
  simp only[aA,ZU,ZV];rw[<-Hl (a:=a) (by simpa[cA]using h)]
 |.d c :: a,h=>by simp[cA]at h
 |.p c :: a,h=>by simp[cA]at h
def Ho{c:List Pt}(h:cst c=0):aS c=List.replicate (bu c) .k:=by
 rw[xB];exact Hl (by rw[<-pP];exact h)
def OE{Y:List Pt}{u:List Nat}(h:aS Y=List.replicate u.length .k):aO Y u=u:=by
 rw[fc,h];have:aO [.keep u.length] u=u:=by simp[aO]
 rw[fc]at this;simpa[aS,Pt.aS]using this
def A6{c:List Pt}{t:List Nat}(h:cst c=0)(f:aY c t=true):aO c t=t:=OE (by rw[Ho h,kh f])
def Dq{c:List Pt}{st:List V}{o:List Nat}(h:cst c=0)(hl:st.length=bu c):nS st (o,c)=st:=by
 unfold nS;rw[eU,Ho h,Ry,abD];apply abv;intro i;by_cases a:i<st.length
 .rw[Z7,aaq (by omega)];simp[who,List.getD,Rx a]
 .rw[aac (by simp;omega),aac (by omega)]
open Classical in
noncomputable def bH(t:List Nat)(a c:List Pt):List Pt:=if h:∃X,Tn a c X t then h.choose else []
def OF{t:List Nat}{a c X:List Pt}(T:Tn a c X t):bH t a c=X:=by
 have h:∃X,Tn a c X t:=⟨X,T⟩
 unfold bH;rw[dif_pos h];have S:=h.choose_spec;exact Va S.yr T.yr S.fit T.fit (S.OB.trans T.OB.symm)
noncomputable def kZ(K:List Row)(r:Row)(X:List Pt):List Row:=if cst X=0 then K else K++[(r.1,X)]
noncomputable def stp(t:List Nat)(K:List Row)(r:Row):List Row:=match K.getLast? with
 |some q=>if q.1=r.1 then kZ K.dropLast r (bH (fy t (cH K.dropLast)) q.2 r.2)else kZ K r (aW r.2)
 |none=>kZ K r (aW r.2)
def xD{t:List Nat}{K:List Row}{o:List Nat}{a c X:List Pt}(T:Tn a c X (fy t (cH K))):stp t (K++[(o,a)]) (o,c)=kZ K (o,c) X:=by
 unfold stp;simp only[acu,List.getLast?_singleton,Option.some_or,List.dropLast_concat,Z4];rw[OF T]
def o4{t:List Nat}{K:List Row}{r:Row}(h:∀K' q,K=K'++[q]->q.1≠r.1):stp t K r=kZ K r (aW r.2):=by
 unfold stp;split
 .rename_i q a;obtain⟨K',rfl⟩:=List.getLast?_eq_some_iff.mp a;rw[ZS (h K' q rfl)]
 .rfl
noncomputable def dJ(t:List Nat)(rs:List Row):List Row:=rs.foldl (stp t) []
def Kh(t:List Nat)(a b:List Row):dJ t (a++b)=b.foldl (stp t) (dJ t a):=by simp[dJ]
def qm(K:List Row):Prop:=∀A a b B,K=A++a :: b :: B->a.1≠b.1
def qm.init{K:List Row}{x:Row}(h:qm (K++[x])):qm K:=λA a b B e=>h A a b (B++[x]) (by simp[e])
def qm.snoc{K:List Row}{x:Row}(h:qm K)(h2:∀K' q,K=K'++[q]->q.1≠x.1):qm (K++[x]):=by
 intro A a b B e;rcases aaS B with rfl|⟨B',y,d⟩
 .rw[show A++[a,b]=(A++[a])++[b]by simp]at e;obtain⟨c,f⟩:=ab1 e rfl;cases f;exact h2 A a c
 .rw[aaT]at d;subst d;rw[show A++a :: b :: (B'++[y])=(A++a :: b :: B')++[y]by simp]at e;obtain⟨c,f⟩:=ab1 e rfl;exact h A a b B' c
def qm.last{K:List Row}{x:Row}(h:qm (K++[x])):∀K' q,K=K'++[q]->q.1≠x.1:=λK' q e=>h K' q x [] (by simp[e])
structure Nm(t:List Nat)(rs K:List Row):Prop where
 ch:Ch t (cH K)
 tx:fy t (cH K)=fy t (cH rs)
 ow:∀st:List V,st.length=t.length->ows st K=ows st rs
 fm:∀q∈K,aW q.2=q.2/\0<cst q.2
 ad:qm K
 ln:K.length<=rs.length
 sb:∀q∈K,∃r∈rs,r.1=q.1
 tt:eE (cH K)<=eE (cH rs)
def Nm.nil(t:List Nat):Nm t [] []:=by
 refine⟨trivial,rfl,λ_ _=>rfl,?_,?_,ZO _,?_,ZO _⟩
 .intro q h;cases h
 .intro A a b B e;simp at e
 .intro q h;cases h
theorem zE{t:List Nat}:∀{rs:List Row}{st:List V},st.length=t.length->Ch t (cH rs)->(ows st rs).length=(fy t (cH rs)).length
 |[],st,h,_=>h
 |r :: rs,st,h,hc=>by
  have a:aY r.2 t=true:=hc.1;exact zE (t:=aO r.2 t) (by rw[Ke,qG a]) hc.2
def jH(K:List Row)(r:Row):eE (cH (K++[r]))=eE (cH K)+tot r.2:=by simp[eE,cH]
def jq(t:List Nat)(K:List Row)(r:Row):fy t (cH (K++[r]))=aO r.2 (fy t (cH K)):=by rw[tP,Ka];rfl
def pS{t:List Nat}{K:List Row}{r:Row}:Ch t (cH (K++[r]))↔Ch t (cH K)/\aY r.2 (fy t (cH K))=true:=by
 rw[tP,xA];exact⟨λh=>⟨h.1,h.2.1⟩,λh=>⟨h.1,h.2,trivial⟩⟩
def nL(st:List V)(K:List Row)(r:Row):ows st (K++[r])=nS (ows st K) r:=by rw[Kd];rfl
section
variable{t:List Nat}{rs K:List Row}{o:List Nat}{c:List Pt}
def Nm.push{K':List Row}{X:List Pt}(hK:Ch t (cH K'))(hX:aY X (fy t (cH K'))=true)(tx:aO X (fy t (cH K'))=fy t (cH (rs++[(o,c)])))
  (ow:∀st:List V,st.length=t.length->nS (ows st K') (o,X)=ows st (rs++[(o,c)])) (fm:∀q∈K',aW q.2=q.2/\0<cst q.2) (fX:aW X=X) (ad:qm K') (al:∀K2 q,K'=K2++[q]->q.1≠o)
  (ln:K'.length<=rs.length) (sb:∀q∈K',∃r∈rs,r.1=q.1) (tt:eE (cH K')+tot X<=eE (cH (rs++[(o,c)]))):Nm t (rs++[(o,c)]) (kZ K' (o,c) X):=by
 have b:∀q∈K',∃r∈rs++[(o,c)],r.1=q.1:=λq a=>by
  obtain⟨r,g,e⟩:=sb q a;exact⟨r,aaI _ g,e⟩
 unfold kZ;split
 .rename_i f;refine⟨hK,?_,λst d=>?_,fm,ad,by simp;omega,b,by omega⟩
  .rw[<-tx,A6 f hX]
  .rw[<-ow st d,Dq f (by rw[zE d hK,kh hX])]
 .rename_i f;refine⟨pS.mpr ⟨hK,hX⟩,by rw[jq];exact tx,λst d=>by rw[nL];exact ow st d,λq a=>?_,ad.snoc al,by simp;omega,λq a=>?_,by rw[jH];exact tt⟩
  .rcases List.mem_append.mp a with a|a
   .exact fm q a
   .rw[Z8]at a;subst a;exact⟨fX,by simp only;omega⟩
  .rcases List.mem_append.mp a with a|a
   .exact b q a
   .rw[Z8]at a;subst a;exact⟨(o,c),by simp,rfl⟩
def Nm.step(N:Nm t rs K)(hf:aY c (fy t (cH rs))=true)(hT:∀K' a,K=K'++[(o,a)]->∃X,Tn a c X (fy t (cH K'))):Nm t (rs++[(o,c)]) (stp t K (o,c)):=by
 by_cases h:∃K' a,K=K'++[(o,a)]
 .obtain⟨K',a,rfl⟩:=h;obtain⟨X,T⟩:=hT K' a rfl;rw[xD T];obtain⟨k,l⟩:=pS.mp N.ch;have b:=N.tx;rw[jq]at b;have i:=N.tt;rw[jH]at i;have p:=T.tt;refine Nm.push k T.fit ?_ (λd f=>?_) (λq g=>N.fm q (aaI _ g)) T.yr N.ad.init (λK2 q e=>N.ad.last K2 q e) (by have:=N.ln;simp at this;omega) (λq g=>N.sb q (aaI _ g)) (by rw[jH];simp only at i ⊢;omega)
  .rw[T.dn,jq,<-b]
  .rw[nL,<-N.ow d f,nL];refine Kg ?_ T.OB;rw[<-kh hf,<-b];exact qG l
 .have j:∀K' q,K=K'++[q]->q.1≠o:=λK' q e z=>h ⟨K',q.2,by rw[e];subst z;rfl⟩;rw[o4 j];refine Nm.push N.ch (by rw[xg,N.tx];exact hf) ?_ (λd f=>?_) N.fm (lS c) N.ad j N.ln N.sb (by rw[jH,g8];have:=N.tt;simp only;omega)
  .rw[iB,N.tx,jq]
  .rw[nL,N.ow d f];unfold nS;rw[eH]
end
end Pv
namespace Pv
open Ev (deep big rep cut bE E Es Eo It T S Ss Fn)
theorem Hq:∀(rs:List (List Pt)) (t:List Nat),(fy t rs).length<=t.length+eE rs
 |[],t=>by simp[fy,eE]
 |c :: rs,t=>by
  have d:=nJ c t;have e:=Hq rs (aO c t);have a:eE (c :: rs)=tot c+eE rs:=by simp[eE]
  have b:fy t (c :: rs)=fy (aO c t) rs:=rfl;rw[a,b];omega
structure zF(t:List Nat)(rs:List Row):Prop where
 ch:Ch t (cH rs)
 ln:∀r∈rs,r.2.length<=900
 tt:t.length+eE (cH rs)<=900
theorem zF.at{t:List Nat}{rs p l:List Row}{r:Row}(h:zF t rs)(e:p++r :: l=rs):aY r.2 (fy t (cH p))=true/\r.2.length<=900/\tot r.2<=900/\(fy t (cH p)).length<=900/\eE (cH p)+tot r.2<=900:=by
 have a:=h.ch;have b:=h.tt;have d:=Hq (cH p) t;rw[<-e,tP]at a b;have c:eE (cH p++cH (r :: l))=eE (cH p)+(tot r.2+eE (cH l)):=by simp[eE,cH]
 rw[c]at b;exact⟨((xA.mp a).2).1,h.ln r (by rw[<-e];simp),by omega,by omega,by omega⟩
noncomputable def jZ(kX:Nat)(OG:Nat)(OH:Nat):Fn:=⟨1,5,(.cons (.set 1 (.lst .nil)) (.cons (.for (.many [2,3]) (.seq (.v 0)) (.cons (.set 4 (.cl kX (.cons (.v 3) .nil))) (.cons (.iff (.an (.v 1) (.cmp .eq (.ix (.ix (.v 1) (.neg (.c (.int 1)))) (.c (.int 0))) (.v 2))) (.cons (.set 4 (.cl OG (.cons (.ix (.me .pop (.v 1) .nil) (.c (.int 1))) (.cons (.v 3) .nil)))) .nil) .nil) (.cons (.iff (.cmp .gt (.cl OH (.cons (.v 4) .nil)) (.c (.int 0))) (.cons (.exp (.me .append (.v 1) (.cons (.tup (.cons (.v 2) (.cons (.v 4) .nil))) .nil))) .nil) .nil) .nil)))) (.cons (.ret (.v 1)) .nil)))⟩
noncomputable def uI(jr:Nat):S:=.iff (.cmp .lt (.bi .len (.cons (.v 2) .nil)) (.c (.int 7))) (.cons (.ret (.cl jr (.cons (.v 0) (.cons (.v 1) (.cons (.v 2) .nil))))) .nil) .nil
noncomputable def uJ(pT:Nat):S:=.set 3 (.cl pT (.cons (.v 0) (.cons (.bin .add (.v 1) (.c (.int 61))) (.cons (.bin .sub (.bi .len (.cons (.v 2) .nil)) (.c (.int 3))) .nil))))
noncomputable def uK:S:=.set 4 (.fS (.cmp .gt (.v 3) (.c (.int 0))) (.tup (.cons (.tup (.cons (.c (.str [107,101,101,112])) (.cons (.v 3) .nil))) .nil)) (.tup .nil))
noncomputable def uL:S:=.set 5 (.bin .sub (.bin .sub (.bi .len (.cons (.v 2) .nil)) (.v 3)) (.c (.int 3)))
noncomputable def uM(jr:Nat):S:=.ret (.bin .add (.bin .add (.v 4) (.cl jr (.cons (.v 0) (.cons (.v 1) (.cons (.sl (.v 2) (.yes (.v 3)) (.yes (.bin .add (.v 3) (.c (.int 3))))) .nil))))) (.fS (.cmp .gt (.v 5) (.c (.int 0))) (.tup (.cons (.tup (.cons (.c (.str [107,101,101,112])) (.cons (.v 5) .nil))) .nil)) (.tup .nil)))
noncomputable def jt(pT:Nat)(jr:Nat):Fn:=⟨3,6,(.cons (.iff (.cmp .eq (.cl pT (.cons (.v 0) (.cons (.bin .add (.v 1) (.c (.int 60))) (.cons (.c (.int 5)) .nil)))) (.c (.int 0))) (.cons (.ret (.fS (.cmp .ne (.v 2) (.c (.str []))) (.tup (.cons (.tup (.cons (.c (.str [107,101,101,112])) (.cons (.bi .len (.cons (.v 2) .nil)) .nil))) .nil)) (.tup .nil))) .nil) .nil) (.cons (uI jr) (.cons (uJ pT) (.cons uK (.cons uL (.cons (uM jr) .nil))))))⟩
def Hr(ns:List Int)(k:Int)(x:List Nat)(b:Nat)(h:x.length<=b):(chg ns k x).length<=2*b+2/\tot (chg ns k x)<=3*b+3:=by
 have a:=oW ns k x (x.length+1);have c:=uG ns k x (x.length+1);simp only[chg];omega
def OI(a b:Nat):Pv.bP .add (.int (a:Int)) (.int (b:Int))=some (.int ((a+b:Nat):Int)):=by rw[cj];congr 2
def xE{a b:Nat}(h:b<=a):Pv.bP .sub (.int (a:Int)) (.int (b:Int))=some (.int ((a - b:Nat):Int)):=by rw[jf];congr 2;omega
def zG{c o:List Pt}{t u:List Nat}(h:aY c t=true)(h2:aY o u=true):aY (c++o) (t++u)=true/\aO (c++o) (t++u)=aO c t++aO o u:=by
 have a:(aA (aS c)).length=t.length:=by rw[<-xB,kh h]
 refine⟨?_,?_⟩
 .rw[gq,eT];rw[gq]at h h2;exact qF h h2
 .rw[fc,ki,sq,a,<-fc,<-fc];simp
def qH(u:List Nat):aY [.keep u.length] u=true/\aO [.keep u.length] u=u:=by simp[aY,aO]
def A7(i:Int):Ev.cC 70 i=true:=by simp[Ev.cC]
def drawn{ns:List Int}(k:Int)(m:Nat)(h:0<m):∃p:Nat,cO ns k (m:Int)=(p:Int)/\p<m:=by
 have a:=kP ns k (many:=(m:Int)) (by omega);have b:=kQ ns k (many:=(m:Int)) (by omega);exact⟨(cO ns k (m:Int)).toNat,by omega,by omega⟩
def zH(a b:Row):cW (18+1) (bW a) (bW b)=some (decide (a=b)):=by
 have h:cW 18 (bf a.2) (bf b.2)=some (decide (a.2=b.2)):=j8 (f:=cW 17) (g:=Pt.v) (CW 15) a.2 b.2;show cG (cW 18) [.str a.1,bf a.2] [.str b.1,bf b.2]=_;rw[dM,dM,j7,h,rJ];obtain⟨c,d⟩:=a;obtain⟨e,i⟩:=b;by_cases j:c=e<;>by_cases k:d=i<;>simp[j,k]
def nR(K:List Row):Pv.cop .ne (.lst (K.map bW)) (.lst (K.map bW))=some false:=by rw[oS,zf,j8 zH];simp
section
variable{F:List Fn}{w n:Nat}
noncomputable def o5(rs K:List Row)(x y z:Option Sl):Fr:=[some (.val (.lst (rs.map bW))),some (.own (K.map bW)),x,y,z]
variable{aN lg bU cz cJ dI fU di bR cQ i:Nat}
variable(hsz:F[aN]?=some fE)(hco:F[lg]?=some (C0 aN))
include hsz hco
theorem xF{rs K:List Row}{r:Row}{X:List Pt}{Q:Fl->Fr->Prop}(hK:K.length<=900)(b1:tot X<=900)(b2:X.length<=900)(q:Q .nx (o5 rs (kZ K r X) (some (.val (.str r.1))) (some (.val (bf r.2))) (some (.val (bf X))))) :
  Wp (exs (run F w (n+7)) w (.cons (.iff (.cmp .gt (.cl lg (.cons (.v 4) .nil)) (.c (.int 0))) (.cons (.exp (.me .append (.v 1) (.cons (.tup (.cons (.v 2) (.cons (.v 4) .nil))) .nil))) .nil) .nil) .nil) (o5 rs K (some (.val (.str r.1))) (some (.val (bf r.2))) (some (.val (bf X))))) Q:=by
 have k:=λfr=>gD (fr:=fr) (EX (F:=F) (w:=w) (n:=n+5) hsz hco X (by omega) (by omega));by_cases h:cst X=0
 .rw[kZ,xC h]at q;exact ai (aL (b:=false) (aE rfl (bI (cZ (aX rfl (aB rfl) aJ) (k _)) (aR rfl) tL) (by simp[truthy,h])) (zb ·) λ_=>az (az q))
 .rw[kZ,ZS h]at q;refine ai (aL (b:=true) (aE rfl (bI (cZ (aX rfl (aB rfl) aJ) (k _)) (aR rfl) tL) (by simp[truthy];omega)) (λ_=>?_) λh=>absurd h (by decide));refine ai (cS (rP rfl rfl (av (cY (av (aB rfl) (av (aB rfl) aD)) gi) aD) (j9 (by simp;omega))) (az (az ?_)));unfold o5 at q ⊢;rw[ZZ]at q;exact q
omit hsz hco in
theorem A8{K:List Row}{q:Row}(h:q∈K):tot q.2<=eE (cH K):=by
 induction K with
 |nil=>cases h
 |cons a K b=>
  have e:eE (cH (a :: K))=tot a.2+eE (cH K):=by simp[eE,cH]
  rw[e];rcases List.mem_cons.mp h with rfl|h
  .omega
  .have:=b h;omega
omit hsz hco in
theorem f_len{c:List Pt}(h:aW c=c):c.length<=tot c:=by rw[<-h];exact jn (ko (jk _))
theorem xG(hst:F[bU]?=some gn)(hfo:F[cz]?=some (mV bU))(qJ:F[cJ]?=some (kU aN))(haf:F[dI]?=some (mU aN))(hpa:F[cQ]?=some jl)(WX:F[bR]?=some (mY cQ aN))(WY:F[di]?=some sj)(xy:F[fU]?=some (kY dI cJ cz aN di bR))(WZ:F[i]?=some (jZ cz fU lg))(hw:5000<w){t:List Nat}{rs:List Row}(R:zF t rs)(hl:rs.length<=100):run F w (n+8) i [.val (.lst (rs.map bW))]=some (.lst ((dJ t rs).map bW),[])/\Nm t rs (dJ t rs):=by
 have G:Wp (exs (run F w (n+7)) w (jZ cz fU lg).body (dz (jZ cz fU lg) [.val (.lst (rs.map bW))])) λr fr=>Nm t rs (dJ t rs)/\r=.ret (.lst ((dJ t rs).map bW))/\outs 1 fr=[]:=by
  refine ai (iV (l:=[]) (jz aD lQ) rfl rfl ?_);refine ai (gY (vs:=rs.map bW) (kR (kg rfl) rfl) ?_);refine iA (e:=bW) (λp l fr=>p++l=rs/\Nm t p (dJ t p)/\∃x y z,vo x/\vo y/\vo z/\fr=o5 rs (dJ t p) x y z) (λp r l fr ⟨d,N,x,y,z,H,I,J,j⟩=>?_) (λp fr ⟨d,N,x,y,z,H,I,J,j⟩=>?_) rs [] _ ⟨rfl,Nm.nil t,none,none,none,.none,.none,.none,rfl⟩
  .subst j;obtain⟨P,h2,h3,h4,h5⟩:=R.at d;have C:dJ t (p++[r])=stp t (dJ t p) r:=by rw[Kh];rfl
   have kl:=N.ln;have pl:p.length<=100:=by rw[<-d]at hl;simp at hl;omega
   have Yc:=N.tt;have T:∀K' a,dJ t p=K'++[(r.1,a)]->∃X,run F w (n+7) fU [.val (bf a),.val (bf r.2)]=some (bf X,[])/\Tn a r.2 X (fy t (cH K')):=λK' a e=>by
    have m:(r.1,a)∈dJ t p:=by rw[e];simp
    have Q:=A8 m;have Z:=f_len (N.fm _ m).1;have W:=N.ch;have L:=N.tx;rw[e]at W L;rw[jq]at L;exact Fd (F:=F) (w:=w) (n:=n+4) hsz hpa WX WY hst hfo qJ haf xy hw a r.2 (fy t (cH K')) (pS.mp W).2 (by rw[L];exact P) (by simp only at Q;omega) (by omega) (by simp only at Q Z;omega) (by omega)
   have N2:Nm t (p++[r]) (dJ t (p++[r])):=by
    rw[C];exact N.step P λK' a e=>by obtain⟨X,_,hX⟩:=T K' a e;exact⟨X,hX⟩
   have f:=λfr=>gD (fr:=fr) (nE (F:=F) (w:=w) (n:=n+5) hst hfo r.2 (by omega) (by omega));have ft:tot (aW r.2)=tot r.2:=g8 _;have Yd:=f_len (lS r.2);refine dh (af:=o5 rs (dJ t p) (some (.val (.str r.1))) (some (.val (bf r.2))) z) (nC rfl H rfl I) ?_;refine ai (bD (ao:=o5 rs (dJ t p) (some (.val (.str r.1))) (some (.val (bf r.2))) (some (.val (bf (aW r.2))))) (cZ (aX rfl (aB rfl) aJ) (f _)) rfl (kT rfl J) ?_);have fin:∀X,kZ (dJ t p) r X=dJ t (p++[r])->(p++[r])++l=rs/\Nm t (p++[r]) (dJ t (p++[r]))/\∃x y z,vo x/\vo y/\vo z/\o5 rs (kZ (dJ t p) r X) (some (.val (.str r.1))) (some (.val (bf r.2))) (some (.val (bf X)))=o5 rs (dJ t (p++[r])) x y z:=λX e=>⟨by simpa using d,N2,_,_,_,.val,.val,.val,by rw[e]⟩
   rcases aaS (dJ t p)with g|⟨K',q,g⟩
   .have A:stp t (dJ t p) r=kZ (dJ t p) r (aW r.2):=o4 λK2 q2 B=>by rw[g]at B;simp at B
    refine ai (aL (b:=false) (rQ (aE rfl (aB rfl) (by rw[g];rfl))) (zb ·) λ_=>az ?_);refine xF hsz hco (by omega) (by omega) (by omega) ?_;rw[dB];exact fin _ (by rw[C,A])
   .rw[aaT]at g;have Y:eX (.lst ((dJ t p).map bW)) (.int (-1))=some (bW q):=by
     show bE ((dJ t p).map bW) (-1)=_;rw[g,rM,ZZ];simp
    have tr:truthy (.lst ((dJ t p).map bW))=true:=by rw[g];show(!((K'++[q]).map bW).isEmpty)=true;simp
    by_cases k:q.1=r.1
    .obtain⟨X,M,TX⟩:=T K' q.2 (by rw[g,<-k]);have M:=λfr=>call2 (fr:=fr) M;have A:stp t (dJ t p) r=kZ K' r X:=by
      rw[g,show q=(r.1,q.2)by rw[<-k]];exact xD (o:=r.1) (c:=r.2) TX
     have tX:=TX.tt;have lX:=TX.ln;have mq:=A8 (K:=dJ t p) (q:=q) (by rw[g];simp);refine ai (aL (b:=true) (gW (aE rfl (aB rfl) tr) (aE rfl (bI (dN (dN (aB rfl) (jA (aR rfl)) Y) (aR rfl) rfl) (aB rfl) tK) (by simp[truthy,k]))) (λ_=>?_) λh=>absurd h (by decide));have po:gU .pop 1 [] (o5 rs (dJ t p) (some (.val (.str r.1))) (some (.val (bf r.2))) (some (.val (bf (aW r.2))))) (some (some (.own ((dJ t p).map bW))))=.ok (bW q) (o5 rs K' (some (.val (.str r.1))) (some (.val (bf r.2))) (some (.val (bf (aW r.2))))):=by
      rw[g,ZZ];exact tG
     refine ai (bD (cZ (aX rfl (dN (rP rfl rfl aD po) (aR rfl) rfl) (aX rfl (aB rfl) aJ)) (M _)) rfl rfl (az ?_));refine xF hsz hco (by have:=Z0 List.length g;simp at this;omega) (by omega) (by omega) ?_;rw[dB];exact⟨by simpa using d,N2,_,_,_,.val,.val,.val,by rw[C,A]⟩
    .have A:stp t (dJ t p) r=kZ (dJ t p) r (aW r.2):=o4 λK2 q2 B=>by
      rw[g]at B;obtain⟨_,e3⟩:=ab1 B rfl;cases e3;exact k
     refine ai (aL (b:=false) (gW (aE rfl (aB rfl) tr) (aE rfl (bI (dN (dN (aB rfl) (jA (aR rfl)) Y) (aR rfl) rfl) (aB rfl) tK) (by simp[truthy,k]))) (zb ·) λ_=>az ?_);refine xF hsz hco (by omega) (by omega) (by omega) ?_;rw[dB];exact fin _ (by rw[C,A])
  .subst j;rw[aaf]at d;subst d;refine ai (bN (af:=[some (.val (.lst (p.map bW))),some (.val (.lst ((dJ t p).map bW))),x,y,z]) ?_ ⟨N,rfl,rfl⟩);have sh:gh (o5 p (dJ t p) x y z)=[some (.val (.lst (p.map bW))),some (.val (.lst ((dJ t p).map bW))),x,y,z]:=by
    show [_,_,x.map Sl.eZ,y.map Sl.eZ,z.map Sl.eZ]=_;rw[dR H,dR I,dR J];rfl
   rw[sh];exact aB rfl
 obtain⟨r,fr,e,N,hr,k⟩:=G;exact⟨bX (fn:=jZ cz fU lg) WZ rfl ⟨r,fr,e,hr,k⟩,N⟩
end
section
variable{F:List Fn}{w n c0 o6 o7 i:Nat}{ns:List Int}
def Dr(hn:ns.length<=63)(hc:F[c0]?=some rN)(hd:F[o6]?=some (rO c0))(Hf:F[o7]?=some (zv o6))(hsm:F[i]?=some (jt o6 o7))(a:Int)(t:List Nat)(ht:t.length<=400):∃c,run F w (n+7) i [.val (dW ns),.val (.int a),.val (.str t)]=some (bf c,[])/\aY c t=true/\c.length<=14/\tot c<=t.length+21/\((aO c t).length<=t.length+12\/(aO c t).length<=27):=by
 have l:=λ(k:Int) (m:Nat) (hm:0<m) fr=>gj (fr:=fr) (eY (F:=F) (w:=w) (n:=n+4) hc hd hn k (many:=(m:Int)) (by omega));have o:=λ(x:List Nat) (p:x.length<=400) fr=>gj (fr:=fr) (AU (F:=F) (w:=w) (n:=n+3) hc hd hn Hf a x (by omega));have d:dS .len [.str t]=some (.int (t.length:Nat)):=abC (by omega);have e:=l (a+60) 5 (by decide);by_cases f:cO ns (a+60) 5=0
 .by_cases r:t=[]
  .subst r;refine⟨[],bX (fn:=jt o6 o7) hsm rfl (ai (aL (b:=true) (aE rfl (bI (cZ (aX rfl (aB rfl) (aX rfl (aU (aB rfl) (aR rfl) cj) (aX rfl (aR rfl) aJ))) (e _)) (aR rfl) qA) (by show decide _=_;exact aae f)) (λ_=>?_) λh=>absurd h (by decide))),rfl,by simp,by simp[tot],.inl (by simp[aO])⟩;exact ai (bN (jU (b:=false) (aE rfl (bI (aB rfl) (aR rfl) gE) rfl) (zb ·) λ_=>cY aD AJ) ⟨rfl,rfl⟩)
  .have k:=qH t;refine⟨[.keep t.length],bX (fn:=jt o6 o7) hsm rfl (ai (aL (b:=true) (aE rfl (bI (cZ (aX rfl (aB rfl) (aX rfl (aU (aB rfl) (aR rfl) cj) (aX rfl (aR rfl) aJ))) (e _)) (aR rfl) qA) (by show decide _=_;exact aae f)) (λ_=>?_) λh=>absurd h (by decide))),k.1,by simp,by simp[tot,Pt.n],.inl (by rw[k.2];omega)⟩;exact ai (bN (jU (b:=true) (aE rfl (bI (aB rfl) (aR rfl) gE) (by show(!decide (t=[]))=true;simp[r])) (λ_=>cY (av (cY (av (aR rfl) (av (gM (av (aB rfl) aD) d) aD)) gi) aD) pL) λh=>absurd h (by decide)) ⟨rfl,rfl⟩)
 .have first:∀{Q:Fl->Fr->Prop},Wp (exs (run F w (n+6)) w (.cons (uI o7) (.cons (uJ o6) (.cons uK (.cons uL (.cons (uM o7) .nil))))) [some (.val (dW ns)),some (.val (.int a)),some (.val (.str t)),none,none,none]) Q->Wp (exs (run F w (n+6)) w (jt o6 o7).body (dz (jt o6 o7) [.val (dW ns),.val (.int a),.val (.str t)])) Q:=λq=>
   ai (aL (b:=false) (aE rfl (bI (cZ (aX rfl (aB rfl) (aX rfl (aU (aB rfl) (aR rfl) cj) (aX rfl (aR rfl) aJ))) (e _)) (aR rfl) qA) (by show decide _=_;exact Z6 f)) (zb ·) λ_=>az q)
  by_cases h7:t.length<7
  .obtain⟨y,g⟩:=Hr ns a t 6 (by omega);have dl:=nJ (chg ns a t) t;refine⟨chg ns a t,bX (fn:=jt o6 o7) hsm rfl (first (ai (aL (b:=true) (aE rfl (bI (gM (av (aB rfl) aD) d) (aR rfl) EO) (by show decide _=_;exact aae (by omega))) (λ_=>?_) λh=>absurd h (by decide)))),zA ns a t,by omega,by omega,.inr (by omega)⟩;exact ai (bN (cZ (aX rfl (aB rfl) (aX rfl (aB rfl) (aX rfl (aB rfl) aJ))) (o t (by omega) _)) ⟨rfl,rfl⟩)
  .obtain⟨P,I,hP⟩:=drawn (ns:=ns) (a+61) (t.length - 3) (by omega);have A:=l (a+61) (t.length - 3) (by omega);rw[I]at A;have ml:((t.drop P).take 3).length=3:=by simp;omega
   obtain⟨y,g⟩:=Hr ns a ((t.drop P).take 3) 3 (by omega);have B:=zA ns a ((t.drop P).take 3);have J:=nJ (chg ns a ((t.drop P).take 3)) ((t.drop P).take 3);have C:=o ((t.drop P).take 3) (by omega);generalize chg ns a ((t.drop P).take 3)=m at y g B J C
   have p:∃H:List Pt,H.length<=1/\tot H=P/\aY H (t.take P)=true/\aO H (t.take P)=t.take P/\∀fr:Fr,nh true fr 3=some (.int (P:Int))->nh false fr 3=some (.int (P:Int))->ev (run F w (n+6)) false (.fS (.cmp .gt (.v 3) (.c (.int 0))) (.tup (.cons (.tup (.cons (.c (.str [107,101,101,112])) (.cons (.v 3) .nil))) .nil)) (.tup .nil)) fr=.ok (bf H) fr:=by
    cases P with
    |zero=>exact⟨[],by simp,by simp[tot],by simp[aY],by simp[aO],λfr h G=>jU (b:=false) (aE rfl (bI (aB h) (aR rfl) tL) rfl) (zb ·) λ_=>cY aD AJ⟩
    |succ P=>
     have k:=qH (t.take (P+1));rw[show(t.take (P+1)).length=P+1 by simp;omega]at k;exact⟨[.keep (P+1)],by simp,by simp[tot,Pt.n],k.1,k.2,λfr h G=>jU (b:=true) (aE rfl (bI (aB h) (aR rfl) tL) (by show decide _=_;exact aae (by omega))) (λ_=>cY (av (cY (av (aR rfl) (av (aB G) aD)) gi) aD) pL) λh=>absurd h (by decide)⟩
   obtain⟨H,lH,K,L,M,N⟩:=p;have j:=qH (t.drop (P+3));rw[show(t.drop (P+3)).length=t.length - P - 3 by simp;omega]at j;have A1:=zG L B;have A2:=zG A1.1 j.1;have W:t.take P++(t.drop P).take 3++t.drop (P+3)=t:=by rw[aap,<-abp,aco,aco]
   rw[W]at A2;have s1:=xE (a:=t.length) (b:=3) (by omega);have s2:=xE (a:=t.length) (b:=P) (by omega);have s3:=xE (a:=t.length - P) (b:=3) (by omega);have X:ir (.str t) (some (P:Int)) (some ((P+3:Nat):Int))=some (.str ((t.drop P).take 3)):=by
    rw[jg];exact Z0 (λz=>some (V.str z)) (xm t P 3)
   have Y:Pv.bP .add (bf H) (bf m)=some (bf (H++m)):=by
    show Pv.bP .add (.tup (H.map Pt.v)) (.tup (m.map Pt.v))=_;rw[qy (by simp;omega),<-ZZ];rfl
   have Z:Pv.bP .add (bf (H++m)) (.tup [.tup [.str [107,101,101,112],.int ((t.length - P - 3:Nat):Int)]])=some (bf (H++m++[.keep (t.length - P - 3)])):=by
    show Pv.bP .add (.tup ((H++m).map Pt.v)) (.tup [_])=_;rw[qy (by simp;omega)];show _=some (V.tup (((H++m)++[Pt.keep (t.length - P - 3)]).map Pt.v));rw[ZZ (l₂:=[Pt.keep (t.length - P - 3)])];rfl
   refine⟨H++m++[.keep (t.length - P - 3)],bX (fn:=jt o6 o7) hsm rfl (first ?_),A2.1,by simp;omega,by rw[fF,fF];simp[tot,Pt.n]at K g ⊢;omega,.inl (by rw[A2.2,A1.2,M,j.2];simp;omega)⟩;refine ai (aL (b:=false) (aE rfl (bI (gM (av (aB rfl) aD) d) (aR rfl) EO) (by show decide _=_;exact Z6 (by omega))) (zb ·) λ_=>az ?_);refine ai (bD (cZ (aX rfl (aB rfl) (aX rfl (aU (aB rfl) (aR rfl) cj) (aX rfl (aU (gM (av (aB rfl) aD) d) (aR rfl) s1) aJ))) (A _)) rfl rfl ?_);refine ai (bD (N _ rfl rfl) rfl rfl ?_);refine ai (bD (aU (aU (gM (av (aB rfl) aD) d) (aB rfl) s2) (aR rfl) s3) rfl rfl ?_);exact ai (bN (aU (aU (aB rfl) (cZ (aX rfl (aB rfl) (aX rfl (aB rfl) (aX rfl (Oj (aB rfl) (wN (aB rfl)) (wN (aU (aB rfl) (aR rfl) (OI P 3))) X) aJ))) (C _)) Y) (jU (b:=true) (aE rfl (bI (aB rfl) (aR rfl) tL) (by show decide _=_;exact aae (by omega))) (λ_=>cY (av (cY (av (aR rfl) (av (aB rfl) aD)) gi) aD) pL) λh=>absurd h (by decide)) Z) ⟨rfl,rfl⟩)
end
def Nm.rw{t:List Nat}{rs K:List Row}(N:Nm t rs K)(R:zF t rs):zF t K:=⟨N.ch,λq a=>by
 have d:=A8 a;have e:=f_len (N.fm q a).1;have b:=N.tt;have c:=R.tt;omega,by have b:=N.tt;have c:=R.tt;omega⟩
def jL{c:Ev.Cl}{l:List V}:ja c (some (some (.ob c l)))=some l:=xC rfl
def Fe{c:Ev.Cl}{l:List V}:ja c (some (some (.oo c l)))=some l:=xC rfl
def A9{c:Ev.Cl}{l:List V}:qf c (some (some (.ob c l)))=some (.ob c l,l):=xC rfl
def dG{c:Ev.Cl}{l:List V}:(ja c (some (some (.ob c l)))).isSome=true:=by rw[jL];rfl
def gO{c:Ev.Cl}{l:List V}:(ja c (some (some (.oo c l)))).isSome=true:=by rw[Fe];rfl
def xH{F:List Ev.Fn}{w n f:Nat}{ds:List Sl}{fn:Ev.Fn}{os:List (List V)}(hf:F[f]?=some fn)(hl:ds.length=fn.np)(q:Wp (exs (run F w n) w fn.body (dz fn ds)) λg fr=>g=.nx/\outs fn.np fr=os):run F w (n+1) f ds=some (.aV,os):=by
 obtain⟨g,fr,e,rfl,a⟩:=q;rw[run_eq hf hl,e];show some (V.aV,outs fn.np fr)=_;rw[a]
section
variable{P:aQ}{g i j:Nat}{fr ao:Fr}{s s':Sl}{c:Ev.Cl}{l l' m m':List V}{v a b d:V}
def kq(e:fr[j]?=some (some s))(hs:s.lend=some (.ob c l)):lent fr j=some (.ob c l):=by unfold lent;rw[e];exact hs
def Kl(e:fr[j]?=some (some s))(hs:s.lend=some (.bor l)):lent fr j=some (.bor l):=by unfold lent;rw[e];exact hs
def dY(e:fr[j]?=some (some s))(hs:s.lend=some (.ob c l))(h:P g [.ob c l]=some (v,[l']))(hr:(fr.set j (some (s.with l')))=ao):b8 P g [.inl j] fr=.ok v ao:=by
 subst hr;unfold b8;rw[xC (show(bh [.inl j]).Nodup from (show([j]:List Nat).Nodup by simp))];simp only[args,kq e hs,Option.bind,Option.map,h,bh,back,e,bQ,ak]
def W0(e:fr[j]?=some (some s))(hs:s.lend=some (.ob c l))(h:P g [.ob c l,.val a,.val b]=some (v,[l']))(hr:(fr.set j (some (s.with l')))=ao):b8 P g [.inl j,.inr a,.inr b] fr=.ok v ao:=by
 subst hr;unfold b8;rw[xC (show(bh [.inl j,.inr a,.inr b]).Nodup from (show([j]:List Nat).Nodup by simp))];simp only[args,kq e hs,Option.bind,Option.map,h,bh,back,e,bQ,ak]
def SD(e:fr[j]?=some (some s))(hs:s.lend=some (.ob c l))(h:P g [.ob c l,.val a,.val b,.val d]=some (v,[l']))(hr:(fr.set j (some (s.with l')))=ao):b8 P g [.inl j,.inr a,.inr b,.inr d] fr=.ok v ao:=by
 subst hr;unfold b8;rw[xC (show(bh [.inl j,.inr a,.inr b,.inr d]).Nodup from (show([j]:List Nat).Nodup by simp))];simp only[args,kq e hs,Option.bind,Option.map,h,bh,back,e,bQ,ak]
def SE(e:fr[j]?=some (some s))(hs:s.lend=some (.ob c l))(h:P g [.val a,.ob c l]=some (v,[l']))(hr:(fr.set j (some (s.with l')))=ao):b8 P g [.inr a,.inl j] fr=.ok v ao:=by
 subst hr;unfold b8;rw[xC (show(bh [.inr a,.inl j]).Nodup from (show([j]:List Nat).Nodup by simp))];simp only[args,kq e hs,Option.bind,Option.map,h,bh,back,e,bQ,ak]
def Ff(e:fr[j]?=some (some s))(hs:s.lend=some (.ob c l))(h:P g [.val a,.val b,.ob c l]=some (v,[l']))(hr:(fr.set j (some (s.with l')))=ao):b8 P g [.inr a,.inr b,.inl j] fr=.ok v ao:=by
 subst hr;unfold b8;rw[xC (show(bh [.inr a,.inr b,.inl j]).Nodup from (show([j]:List Nat).Nodup by simp))];simp only[args,kq e hs,Option.bind,Option.map,h,bh,back,e,bQ,ak]
def W2(hij:i≠j)(e:fr[i]?=some (some s))(hs:s.lend=some (.ob c l))(e':fr[j]?=some (some s'))(hs':s'.lend=some (.bor m))(h:P g [.ob c l,.bor m]=some (v,[l',m']))(hr:(fr.set i (some (s.with l'))).set j (some (s'.with m'))=ao):b8 P g [.inl i,.inl j] fr=.ok v ao:=by
 subst hr;have f:(fr.set i (some (s.with l')))[j]?=some (some s'):=by rw[Kc hij];exact e'
 have nd:([i,j]:List Nat).Nodup:=by simp[hij]
 unfold b8;rw[xC (show(bh [.inl i,.inl j]).Nodup from nd)];simp only[args,kq e hs,Kl e' hs',Option.bind,Option.map,h,bh,back,e,f,bQ,ak]
end
abbrev aH:Ev.Cl:=⟨[76,101,100,103,101,114],[[102,105,114,115,116],[115,116,101,112,115],[108,97,116,101,114]],1,3⟩
abbrev Lp:=List Nat×List Row×List Nat
noncomputable def fN(s:Lp):V:=.tup [.str s.1,.tup (s.2.1.map bW),.str s.2.2]
noncomputable def lO(t:List Nat)(S L:List Lp):List V:=[.str t,.tup (S.map fN),.tup (L.map fN)]
noncomputable def gw(t:List Nat)(S:List Lp):List Nat:=match S.getLast? with
 |some s=>s.2.2
 |none=>t
noncomputable def dZ(S:List Lp):List Row:=match S.getLast? with
 |some s=>s.2.1
 |none=>[]
def Ds(t:List Nat)(S:List Lp)(s:Lp):gw t (S++[s])=s.2.2:=by unfold gw;simp
def Dt(S:List Lp)(s:Lp):dZ (S++[s])=s.2.1:=by unfold dZ;simp
def qo{t:List Nat}{S L:List Lp}:nP aH (lO t S L) 1=some (S.map fN):=by unfold nP;rw[xC (by decide)];rfl
def Du{t:List Nat}{S L:List Lp}:nP aH (lO t S L) 2=some (L.map fN):=by unfold nP;rw[xC (by decide)];rfl
noncomputable def tQ:Fn:=⟨1,1,.cons (.ret (.fS (.fu aH .lF 0 1 .nil) (.ix (.fu aH .ix 0 1 (.cons (.neg (.c (.int 1))) .nil)) (.c (.int 2))) (.fld aH 0 0))) .nil⟩
noncomputable def tR:Fn:=⟨1,1,.cons (.ret (.fS (.fu aH .lF 0 1 .nil) (.gP (.seq (.ix (.fu aH .ix 0 1 (.cons (.neg (.c (.int 1))) .nil)) (.c (.int 1))))) (.lst .nil))) .nil⟩
noncomputable def tS:Fn:=⟨4,4,.cons (.exp (.fm aH .app 0 1 (.cons (.tup (.cons (.v 1) (.cons (.iY (.v 2)) (.cons (.v 3) .nil)))) .nil))) (.cons (.pZ aH 0 2) .nil)⟩
noncomputable def Km(p:Nat):Fn:=⟨1,1,.cons (.iff (.nt (.fu aH .lF 0 1 .nil)) (.cons (.fC p) .nil) .nil) (.cons (.exp (.mv aH 0 2 1)) (.cons (.ret (.ix (.fu aH .ix 0 2 (.cons (.neg (.c (.int 1))) .nil)) (.c (.int 0)))) .nil))⟩
noncomputable def Fi(p:Nat):Fn:=⟨1,1,.cons (.iff (.nt (.fu aH .lF 0 2 .nil)) (.cons (.fC p) .nil) .nil) (.cons (.exp (.mv aH 0 1 2)) (.cons (.ret (.ix (.fu aH .ix 0 1 (.cons (.neg (.c (.int 1))) .nil)) (.c (.int 0)))) .nil))⟩
noncomputable def Dv:Fn:=⟨1,1,.cons (.ret (.tup (.cons (.fu aH .len 0 1 .nil) (.cons (.fu aH .len 0 2 .nil) .nil)))) .nil⟩
noncomputable def Fj(OJ xJ xK xN:Nat):Fn:=⟨3,4,.cons (.set 3 (.cl OJ (.cons (.v 2) (.cons (.bJ aH xJ (.cons (.v 0) .nil)) .nil)))) (.cons (.exp (.bJ aH xK (.cons (.v 0) (.cons (.c (.str [119,114,105,116,101])) (.cons (.bin .add (.bJ aH xN (.cons (.v 0) .nil)) (.lst (.cons (.tup (.cons (.v 1) (.cons (.v 2) .nil))) .nil))) (.cons (.v 3) .nil)))))) (.cons (.ret (.v 3)) .nil))⟩
noncomputable def Kn(xN Vc xK xJ:Nat):Fn:=⟨1,3,.cons (.set 1 (.bJ aH xN (.cons (.v 0) .nil))) (.cons (.set 2 (.cl Vc (.cons (.v 1) .nil))) (.cons (.exp (.bJ aH xK (.cons (.v 0) (.cons (.c (.str [102,111,108,100])) (.cons (.v 2) (.cons (.bJ aH xJ (.cons (.v 0) .nil)) .nil)))))) (.cons (.ret (.bin .sub (.bi .len (.cons (.v 1) .nil)) (.bi .len (.cons (.v 2) .nil)))) .nil)))⟩
section
variable{F:List Fn}{w n i p iT iE iS iD iQ aN mX:Nat}{t:List Nat}{S L:List Lp}{s:Lp}
def Ba(S:List Lp):qg .lF (S.map fN) []=some (.bl (!S.isEmpty)):=by cases S<;>rfl
def Hs(S:List Lp)(s:Lp):qg .ix ((S++[s]).map fN) [.int (-1)]=some (fN s):=by
 show bE ((S++[s]).map fN) (-1)=_;rw[rM];simp
def o8(h:F[i]?=some tQ):run F w (n+1) i [.ob aH (lO t S L)]=some (.str (gw t S),[lO t S L]):=by
 refine bX h rfl (ai (bN (af:=[some (.ob aH (lO t S L))]) (jU (b:=!S.isEmpty) (aE rfl (mh dG aD jL qo (Ba S)) rfl) (λh=>?_) λh=>?_) ⟨rfl,rfl⟩))
 .rcases aaS S with rfl|⟨S',s,e⟩
  .cases h
  .rw[aaT]at e;subst e;rw[Ds];exact dN (mh dG (av (jA (aR rfl)) aD) jL qo (Hs S' s)) (aR rfl) rfl
 .cases S with
  |nil=>exact Rl jL (by decide) rfl
  |cons a S=>cases h
def mZ(h:F[i]?=some tR)(hl:(dZ S).length<=1000):run F w (n+1) i [.ob aH (lO t S L)]=some (.lst ((dZ S).map bW),[lO t S L]):=by
 refine bX h rfl (ai (bN (af:=[some (.ob aH (lO t S L))]) (jU (b:=!S.isEmpty) (aE rfl (mh dG aD jL qo (Ba S)) rfl) (λh=>?_) λh=>?_) ⟨rfl,rfl⟩))
 .rcases aaS S with rfl|⟨S',s,e⟩
  .cases h
  .rw[aaT]at e;subst e;rw[Dt]at hl ⊢;exact u5 (kR (show ev _ _ _ _=_ from dN (mh dG (av (jA (aR rfl)) aD) jL qo (Hs S' s)) (aR rfl) rfl) rfl) (gT (cL (by rw[aaa];omega)))
 .cases S with
  |nil=>exact jz aD lQ
  |cons a S=>cases h
def Dw(h:F[i]?=some tS){wd u:List Nat}{rs:List Row}(hl:rs.length<=1000)(hS:S.length<=1000):run F w (n+1) i [.ob aH (lO t S L),.val (.str wd),.val (.lst (rs.map bW)),.val (.str u)]=some (.aV,[lO t (S++[(wd,rs,u)]) []]):=by
 refine xH h rfl ?_;refine ai (cS (U7 (l:=lO t S L) (xs:=S.map fN) (v:=.aV) (xs':=(S++[(wd,rs,u)]).map fN) dG (av (cY (av (aB rfl) (av (u6 (aB rfl) (show toT (.lst (rs.map bW))=some (.tup (rs.map bW))from kM (cL (by rw[aaa];omega)))) (av (aB rfl) aD))) rF) aD) A9 qo (by simp only[Cz];rw[xC (abi (show(S.map fN).length<=1000 by simpa using hS) (by decide))];simp[fN]) rfl) ?_);exact ai (Rm (l:=lO t (S++[(wd,rs,u)]) L) A9 ⟨by decide,show 2<3 by decide⟩ rfl (az ⟨rfl,rfl⟩))
def xO(h:F[i]?=some Dv):run F w (n+1) i [.ob aH (lO t S L)]=some (.tup [.int (S.length:Nat),.int (L.length:Nat)],[lO t S L]):=by
 refine bX h rfl (ai (bN (cY (av (mh dG aD jL qo (show qg .len (S.map fN) []=some (.int (S.length:Nat))by simp[qg])) (av (mh dG aD jL Du (show qg .len (L.map fN) []=some (.int (L.length:Nat))by simp[qg])) aD)) gi) ⟨rfl,rfl⟩))
def OL(h:F[i]?=some (Km p))(hL:L.length<=1000):run F w (n+1) i [.ob aH (lO t (S++[s]) L)]=some (.str s.1,[lO t S (L++[s])]):=by
 have a:uA aH (lO t (S++[s]) L) 2 1=some (lO t S (L++[s])):=by
  unfold uA;rw[qo,Du];have c:((S++[s]).map fN)[((S++[s]).map fN).length - 1]?=some (fN s):=by simp
  have d:((S++[s]).map fN).dropLast=S.map fN:=by simp
  simp only[Option.bind];rw[c,d];simp only;rw[xC ⟨abi (show(L.map fN).length<=1000 by simpa using hL) (by decide),by decide⟩];simp[lO]
 refine bX h rfl (ai (aL (b:=false) (rR (b:=true) (aE rfl (mh dG aD jL qo (Ba (S++[s]))) (by simp[truthy]))) (zb ·) λ_=>az ?_));refine ai (cS (Om A9 a rfl) ?_);exact ai (bN (dN (mh dG (av (jA (aR rfl)) aD) jL Du (Hs L s)) (aR rfl) rfl) ⟨rfl,rfl⟩)
def Ko(h:F[i]?=some (Fi p))(hL:S.length<=1000):run F w (n+1) i [.ob aH (lO t S (L++[s]))]=some (.str s.1,[lO t (S++[s]) L]):=by
 have a:uA aH (lO t S (L++[s])) 1 2=some (lO t (S++[s]) L):=by
  unfold uA;rw[qo,Du];have c:((L++[s]).map fN)[((L++[s]).map fN).length - 1]?=some (fN s):=by simp
  have d:((L++[s]).map fN).dropLast=L.map fN:=by simp
  simp only[Option.bind];rw[c,d];simp only;rw[xC ⟨abi (show(S.map fN).length<=1000 by simpa using hL) (by decide),by decide⟩];simp[lO]
 refine bX h rfl (ai (aL (b:=false) (rR (b:=true) (aE rfl (mh dG aD jL Du (Ba (L++[s]))) (by simp[truthy]))) (zb ·) λ_=>az ?_));refine ai (cS (Om A9 a rfl) ?_);exact ai (bN (dN (mh dG (av (jA (aR rfl)) aD) jL qo (Hs S s)) (aR rfl) rfl) ⟨rfl,rfl⟩)
def Kp(hT:F[iT]?=some tQ)(hE:F[iE]?=some tR)(hS:F[iS]?=some tS)(hsz:F[aN]?=some fE)(My:F[mX]?=some (xj aN))(hD:F[iD]?=some (Df mX))(h:F[i]?=some (Fj iD iT iS iE)){o:List Nat}{c:List Pt}(hf:aY c (gw t S)=true)(b1:tot c<=2000)(b2:c.length<=2000)(b3:(gw t S).length<=2000)(b4:(dZ S).length<=900)(b5:S.length<=900):run F w (n+4) i [.ob aH (lO t S L),.val (.str o),.val (bf c)]=some (.str (aO c (gw t S)),[lO t (S++[([119,114,105,116,101],dZ S++[(o,c)],aO c (gw t S))]) []]):=by
 have a:=λfr=>call2 (fr:=fr) (E8 (F:=F) (w:=w) (n:=n) hsz My hD c (gw t S) (by omega) (by omega) (by omega) hf);have b:=o8 (w:=w) (n:=n+2) (t:=t) (S:=S) (L:=L) hT;have d:=mZ (w:=w) (n:=n+2) (t:=t) (S:=S) (L:=L) hE (by omega);have e:=Dw (w:=w) (n:=n+2) (t:=t) (S:=S) (L:=L) hS (wd:=[119,114,105,116,101]) (u:=aO c (gw t S)) (rs:=dZ S++[(o,c)]) (by simp;omega) (by omega);have f:bP .add (.lst ((dZ S).map bW)) (.lst [.tup [.str o,bf c]])=some (.lst ((dZ S++[(o,c)]).map bW)):=by
  rw[EH (by simp;omega),ZZ];rfl
 refine bX h rfl ?_;refine ai (bD (cZ (aX rfl (aB rfl) (aX rfl (bY (dG (c:=aH) (l:=lO t S L)) (b7 rfl aJ) (dY rfl rfl b rfl)) aJ)) (a _)) rfl rfl ?_);refine ai (cS (bY (dG (c:=aH) (l:=lO t S L)) (b7 rfl (aX rfl (aR rfl) (aX rfl (aU (bY (dG (c:=aH) (l:=lO t S L)) (b7 rfl aJ) (dY rfl rfl d rfl)) (jz (av (cY (av (aB rfl) (av (aB rfl) aD)) gi) aD) AK) f) (aX rfl (aB rfl) aJ)))) (SD rfl rfl e rfl)) ?_);exact ai (bN (aB rfl) ⟨rfl,rfl⟩)
def OM(hT:F[iT]?=some tQ)(hE:F[iE]?=some tR)(hS:F[iS]?=some tS)(h:F[i]?=some (Kn iE iQ iS iT)){K:List Row}(hq:run F w (n+1) iQ [.val (.lst ((dZ S).map bW))]=some (.lst (K.map bW),[]))(b4:(dZ S).length<=900)(b6:K.length<=900)(b5:S.length<=900):run F w (n+2) i [.ob aH (lO t S L)]=some (.int (((dZ S).length:Nat) - (K.length:Nat)),[lO t (S++[([102,111,108,100],K,gw t S)]) []]):=by
 have b:=o8 (w:=w) (n:=n) (t:=t) (S:=S) (L:=L) hT;have d:=mZ (w:=w) (n:=n) (t:=t) (S:=S) (L:=L) hE (by omega);have e:=Dw (w:=w) (n:=n) (t:=t) (S:=S) (L:=L) hS (wd:=[102,111,108,100]) (u:=gw t S) (rs:=K) (by omega) (by omega);have q:=λfr=>gD (fr:=fr) hq;have W3:dS .len [.lst ((dZ S).map bW)]=some (.int ((dZ S).length:Nat)):=by rw[pM,aaa]
 have a:dS .len [.lst (K.map bW)]=some (.int (K.length:Nat)):=by rw[pM,aaa]
 refine bX h rfl ?_;refine ai (bD (bY (dG (c:=aH) (l:=lO t S L)) (b7 rfl aJ) (dY rfl rfl d rfl)) rfl rfl ?_);refine ai (bD (cZ (aX rfl (aB rfl) aJ) (q _)) rfl rfl ?_);refine ai (cS (bY (dG (c:=aH) (l:=lO t S L)) (b7 rfl (aX rfl (aR rfl) (aX rfl (aB rfl) (aX rfl (bY (dG (c:=aH) (l:=lO t S L)) (b7 rfl aJ) (dY rfl rfl b rfl)) aJ)))) (SD rfl rfl e rfl)) ?_);exact ai (bN (aU (gM (av (aB rfl) aD) W3) (gM (av (aB rfl) aD) a) jf) ⟨rfl,rfl⟩)
end
end Pv
namespace Lw
abbrev au:Ev.Cl:=⟨[76,101,100,103,101,114],[[102,105,114,115,116],[115,116,101,112,115],[108,97,116,101,114]],1,3⟩
noncomputable abbrev f0:Ev.Fn:=⟨1,1,(.cons (.iff (.cmp .eq (.ix (.v 0) (.c (.int 0))) (.c (.str [107,101,101,112]))) (.cons (.ret (.ix (.v 0) (.c (.int 1)))) .nil) .nil) (.cons (.ret (.bi .len (.cons (.ix (.v 0) (.c (.int 1))) .nil))) .nil))⟩
noncomputable abbrev f1:Ev.Fn:=⟨1,2,(.cons (.ret (.bi .sum (.cons (.comp (.cl 0 (.cons (.v 1) .nil)) (.one 1) (.seq (.v 0)) (.yes (.cmp .ne (.ix (.v 1) (.c (.int 0))) (.c (.str [112,117,116]))))) .nil))) .nil)⟩
noncomputable abbrev f2:Ev.Fn:=⟨1,2,(.cons (.ret (.bi .sum (.cons (.comp (.cl 0 (.cons (.v 1) .nil)) (.one 1) (.seq (.v 0)) (.yes (.cmp .ne (.ix (.v 1) (.c (.int 0))) (.c (.str [100,114,111,112]))))) .nil))) .nil)⟩
noncomputable abbrev f3:Ev.Fn:=⟨1,2,(.cons (.ret (.bi .sum (.cons (.comp (.cl 0 (.cons (.v 1) .nil)) (.one 1) (.seq (.v 0)) (.yes (.cmp .ne (.ix (.v 1) (.c (.int 0))) (.c (.str [107,101,101,112]))))) .nil))) .nil)⟩
noncomputable abbrev f4:Ev.Fn:=⟨1,7,(.cons (.set 1 (.lst .nil)) (.cons (.set 2 (.c (.int 0))) (.cons (.set 3 (.c (.str []))) (.cons (.set 4 (.c (.str []))) (.cons (.for (.many [5,6]) (.seq (.v 0)) (.cons (.iff (.cmp .eq (.v 5) (.c (.str [100,114,111,112]))) (.cons (.set 3 (.bin .add (.v 3) (.v 6))) .nil) (.cons (.iff (.cmp .eq (.v 5) (.c (.str [112,117,116]))) (.cons (.set 4 (.bin .add (.v 4) (.v 6))) .nil) (.cons (.iff (.cmp .gt (.v 6) (.c (.int 0))) (.cons (.iff (.orr (.cmp .ne (.v 3) (.c (.str []))) (.cmp .ne (.v 4) (.c (.str [])))) (.cons (.exp (.me .extend (.v 1) (.cons (.cl 5 (.cons (.v 2) (.cons (.v 3) (.cons (.v 4) .nil)))) .nil))) (.cons (.set 2 (.c (.int 0))) (.cons (.set 3 (.c (.str []))) (.cons (.set 4 (.c (.str []))) .nil)))) .nil) (.cons (.set 2 (.bin .add (.v 2) (.v 6))) .nil)) .nil) .nil)) .nil)) .nil)) (.cons (.exp (.me .extend (.v 1) (.cons (.cl 5 (.cons (.v 2) (.cons (.v 3) (.cons (.v 4) .nil)))) .nil))) (.cons (.ret (.iY (.v 1))) .nil)))))))⟩
noncomputable abbrev f5:Ev.Fn:=⟨3,4,(.cons (.set 3 (.lst .nil)) (.cons (.iff (.cmp .gt (.v 0) (.c (.int 0))) (.cons (.exp (.me .append (.v 3) (.cons (.tup (.cons (.c (.str [107,101,101,112])) (.cons (.v 0) .nil))) .nil))) .nil) .nil) (.cons (.iff (.cmp .ne (.v 1) (.c (.str []))) (.cons (.exp (.me .append (.v 3) (.cons (.tup (.cons (.c (.str [100,114,111,112])) (.cons (.v 1) .nil))) .nil))) .nil) .nil) (.cons (.iff (.cmp .ne (.v 2) (.c (.str []))) (.cons (.exp (.me .append (.v 3) (.cons (.tup (.cons (.c (.str [112,117,116])) (.cons (.v 2) .nil))) .nil))) .nil) .nil) (.cons (.ret (.v 3)) .nil)))))⟩
noncomputable abbrev f6:Ev.Fn:=⟨2,4,(.cons (.set 2 (.c (.int 0))) (.cons (.for (.one 3) (.seq (.v 0)) (.cons (.iff (.an (.cmp .eq (.ix (.v 3) (.c (.int 0))) (.c (.str [100,114,111,112]))) (.cmp .ne (.sl (.v 1) (.yes (.v 2)) (.yes (.bin .add (.v 2) (.cl 0 (.cons (.v 3) .nil))))) (.ix (.v 3) (.c (.int 1))))) (.cons (.ret (.c (.bl false))) .nil) .nil) (.cons (.iff (.cmp .ne (.ix (.v 3) (.c (.int 0))) (.c (.str [112,117,116]))) (.cons (.set 2 (.bin .add (.v 2) (.cl 0 (.cons (.v 3) .nil)))) .nil) .nil) .nil))) (.cons (.ret (.cmp .eq (.v 2) (.bi .len (.cons (.v 1) .nil)))) .nil)))⟩
noncomputable abbrev f7:Ev.Fn:=⟨2,6,(.cons (.iff (.nt (.cl 6 (.cons (.v 0) (.cons (.v 1) .nil)))) (.cons (.fC 0) .nil) .nil) (.cons (.set 2 (.lst .nil)) (.cons (.set 3 (.c (.int 0))) (.cons (.for (.many [4,5]) (.seq (.v 0)) (.cons (.iff (.cmp .eq (.v 4) (.c (.str [112,117,116]))) (.cons (.exp (.me .append (.v 2) (.cons (.v 5) .nil))) .nil) (.cons (.iff (.cmp .eq (.v 4) (.c (.str [100,114,111,112]))) (.cons (.set 3 (.bin .add (.v 3) (.bi .len (.cons (.v 5) .nil)))) .nil) (.cons (.exp (.me .append (.v 2) (.cons (.sl (.v 1) (.yes (.v 3)) (.yes (.bin .add (.v 3) (.v 5)))) .nil))) (.cons (.set 3 (.bin .add (.v 3) (.v 5))) .nil))) .nil)) .nil)) (.cons (.ret (.me .join (.c (.str [])) (.cons (.v 2) .nil))) .nil)))))⟩
noncomputable abbrev f8:Ev.Fn:=⟨2,6,(.cons (.iff (.cmp .ne (.cl 2 (.cons (.v 0) .nil)) (.cl 1 (.cons (.v 1) .nil))) (.cons (.fC 0) .nil) .nil) (.cons (.set 2 (.gP (.rev (.cl 4 (.cons (.v 0) .nil))))) (.cons (.set 3 (.gP (.rev (.cl 4 (.cons (.v 1) .nil))))) (.cons (.set 4 (.lst .nil)) (.cons (.pY (.orr (.v 2) (.v 3)) (.cons (.iff (.an (.v 2) (.cmp .eq (.ix (.ix (.v 2) (.neg (.c (.int 1)))) (.c (.int 0))) (.c (.str [100,114,111,112])))) (.cons (.exp (.me .append (.v 4) (.cons (.me .pop (.v 2) .nil) .nil))) .nil) (.cons (.iff (.an (.v 3) (.cmp .eq (.ix (.ix (.v 3) (.neg (.c (.int 1)))) (.c (.int 0))) (.c (.str [112,117,116])))) (.cons (.exp (.me .append (.v 4) (.cons (.me .pop (.v 3) .nil) .nil))) .nil) (.cons (.set 5 (.bi .min (.cons (.cl 0 (.cons (.ix (.v 2) (.neg (.c (.int 1)))) .nil)) (.cons (.cl 0 (.cons (.ix (.v 3) (.neg (.c (.int 1)))) .nil)) .nil)))) (.cons (.exp (.me .extend (.v 4) (.cons (.cl 9 (.cons (.cl 10 (.cons (.v 2) (.cons (.v 5) .nil))) (.cons (.cl 10 (.cons (.v 3) (.cons (.v 5) .nil))) .nil))) .nil))) .nil))) .nil)) .nil)) (.cons (.ret (.cl 4 (.cons (.iY (.v 4)) .nil))) .nil))))))⟩
noncomputable abbrev f9:Ev.Fn:=⟨2,2,(.cons (.iff (.cmp .eq (.ix (.v 1) (.c (.int 0))) (.c (.str [107,101,101,112]))) (.cons (.ret (.lst (.cons (.v 0) .nil))) .nil) .nil) (.cons (.iff (.cmp .eq (.ix (.v 0) (.c (.int 0))) (.c (.str [107,101,101,112]))) (.cons (.ret (.lst (.cons (.v 1) .nil))) .nil) .nil) (.cons (.iff (.cmp .ne (.ix (.v 0) (.c (.int 1))) (.ix (.v 1) (.c (.int 1)))) (.cons (.fC 0) .nil) .nil) (.cons (.ret (.lst .nil)) .nil))))⟩
noncomputable abbrev B9:Ev.Fn:=⟨2,3,(.cons (.set 2 (.cl 11 (.cons (.me .pop (.v 0) .nil) (.cons (.v 1) .nil)))) (.cons (.iff (.cmp .gt (.cl 0 (.cons (.ix (.v 2) (.c (.int 1))) .nil)) (.c (.int 0))) (.cons (.exp (.me .append (.v 0) (.cons (.ix (.v 2) (.c (.int 1))) .nil))) .nil) .nil) (.cons (.ret (.ix (.v 2) (.c (.int 0)))) .nil)))⟩
noncomputable abbrev ON:Ev.Fn:=⟨2,3,(.cons (.set 2 (.ix (.v 0) (.c (.int 0)))) (.cons (.iff (.cmp .eq (.v 2) (.c (.str [107,101,101,112]))) (.cons (.ret (.tup (.cons (.tup (.cons (.v 2) (.cons (.v 1) .nil))) (.cons (.tup (.cons (.v 2) (.cons (.bin .sub (.ix (.v 0) (.c (.int 1))) (.v 1)) .nil))) .nil)))) .nil) .nil) (.cons (.ret (.tup (.cons (.tup (.cons (.v 2) (.cons (.sl (.ix (.v 0) (.c (.int 1))) .no (.yes (.v 1))) .nil))) (.cons (.tup (.cons (.v 2) (.cons (.sl (.ix (.v 0) (.c (.int 1))) (.yes (.v 1)) .no) .nil))) .nil)))) .nil)))⟩
noncomputable abbrev OO:Ev.Fn:=⟨1,5,(.cons (.set 1 (.lst .nil)) (.cons (.for (.many [2,3]) (.seq (.v 0)) (.cons (.set 4 (.cl 4 (.cons (.v 3) .nil))) (.cons (.iff (.an (.v 1) (.cmp .eq (.ix (.ix (.v 1) (.neg (.c (.int 1)))) (.c (.int 0))) (.v 2))) (.cons (.set 4 (.cl 8 (.cons (.ix (.me .pop (.v 1) .nil) (.c (.int 1))) (.cons (.v 3) .nil)))) .nil) .nil) (.cons (.iff (.cmp .gt (.cl 3 (.cons (.v 4) .nil)) (.c (.int 0))) (.cons (.exp (.me .append (.v 1) (.cons (.tup (.cons (.v 2) (.cons (.v 4) .nil))) .nil))) .nil) .nil) .nil)))) (.cons (.ret (.v 1)) .nil)))⟩
noncomputable abbrev OP:Ev.Fn:=⟨2,2,(.cons (.iff (.cmp .eq (.v 0) (.lst .nil)) (.cons (.ret (.bin .mul (.c (.int 7)) (.v 1))) .nil) .nil) (.cons (.ret (.bin .add (.ix (.v 0) (.bin .mod (.v 1) (.bi .len (.cons (.v 0) .nil)))) (.bin .mul (.c (.int 6553)) (.bin .fdiv (.v 1) (.bi .len (.cons (.v 0) .nil)))))) .nil))⟩
noncomputable abbrev OQ:Ev.Fn:=⟨3,4,(.cons (.set 3 (.bin .mod (.bin .add (.bin .mul (.bin .mod (.cl 13 (.cons (.v 0) (.cons (.v 1) .nil))) (.c (.int 2147483563))) (.c (.int 69069))) (.bin .mul (.c (.int 104723)) (.bin .add (.v 1) (.c (.int 1))))) (.c (.int 2147483563)))) (.cons (.set 3 (.bin .mod (.bin .add (.bin .mul (.v 3) (.v 3)) (.bin .fdiv (.v 3) (.c (.int 3)))) (.c (.int 2147483399)))) (.cons (.ret (.bin .mod (.bin .fdiv (.bin .mod (.bin .add (.bin .mul (.v 3) (.v 3)) (.bin .fdiv (.v 3) (.c (.int 7)))) (.c (.int 2147483647))) (.c (.int 11))) (.v 2))) .nil)))⟩
noncomputable abbrev OR:Ev.Fn:=⟨3,4,(.cons (.ret (.me .join (.c (.str [])) (.cons (.comp (.ix (.c (.str [97,98,99,32])) (.cl 14 (.cons (.v 0) (.cons (.bin .add (.bin .add (.v 1) (.c (.int 1))) (.v 3)) (.cons (.c (.int 4)) .nil))))) (.one 3) (.fh (.cons (.cl 14 (.cons (.v 0) (.cons (.v 1) (.cons (.bin .add (.v 2) (.c (.int 1))) .nil)))) .nil)) .no) .nil))) .nil)⟩
noncomputable abbrev OS:Ev.Fn:=⟨3,7,(.cons (.set 3 (.tup .nil)) (.cons (.for (.one 4) (.fh (.cons (.bin .add (.bi .len (.cons (.v 2) .nil)) (.c (.int 1))) .nil)) (.cons (.iff (.cmp .eq (.cl 14 (.cons (.v 0) (.cons (.bin .add (.v 1) (.bin .mul (.c (.int 4)) (.v 4))) (.cons (.c (.int 4)) .nil)))) (.c (.int 0))) (.cons (.set 5 (.bin .mul (.ix (.c (.str [97,98,122])) (.cl 14 (.cons (.v 0) (.cons (.bin .add (.bin .add (.v 1) (.bin .mul (.c (.int 4)) (.v 4))) (.c (.int 1))) (.cons (.c (.int 3)) .nil))))) (.bin .add (.c (.int 1)) (.cl 14 (.cons (.v 0) (.cons (.bin .add (.bin .add (.v 1) (.bin .mul (.c (.int 4)) (.v 4))) (.c (.int 2))) (.cons (.c (.int 2)) .nil))))))) (.cons (.set 3 (.bin .add (.v 3) (.tup (.cons (.tup (.cons (.c (.str [112,117,116])) (.cons (.v 5) .nil))) .nil)))) .nil)) .nil) (.cons (.iff (.cmp .lt (.v 4) (.bi .len (.cons (.v 2) .nil))) (.cons (.set 6 (.cmp .gt (.cl 14 (.cons (.v 0) (.cons (.bin .add (.bin .add (.v 1) (.bin .mul (.c (.int 4)) (.v 4))) (.c (.int 3))) (.cons (.c (.int 3)) .nil)))) (.c (.int 0)))) (.cons (.set 3 (.bin .add (.v 3) (.tup (.cons (.fS (.v 6) (.tup (.cons (.c (.str [107,101,101,112])) (.cons (.c (.int 1)) .nil))) (.tup (.cons (.c (.str [100,114,111,112])) (.cons (.ix (.v 2) (.v 4)) .nil)))) .nil)))) .nil)) .nil) .nil))) (.cons (.ret (.v 3)) .nil)))⟩
noncomputable abbrev OU:Ev.Fn:=⟨3,6,(.cons (.iff (.cmp .eq (.cl 14 (.cons (.v 0) (.cons (.bin .add (.v 1) (.c (.int 60))) (.cons (.c (.int 5)) .nil)))) (.c (.int 0))) (.cons (.ret (.fS (.cmp .ne (.v 2) (.c (.str []))) (.tup (.cons (.tup (.cons (.c (.str [107,101,101,112])) (.cons (.bi .len (.cons (.v 2) .nil)) .nil))) .nil)) (.tup .nil))) .nil) .nil) (.cons (.iff (.cmp .lt (.bi .len (.cons (.v 2) .nil)) (.c (.int 7))) (.cons (.ret (.cl 16 (.cons (.v 0) (.cons (.v 1) (.cons (.v 2) .nil))))) .nil) .nil) (.cons (.set 3 (.cl 14 (.cons (.v 0) (.cons (.bin .add (.v 1) (.c (.int 61))) (.cons (.bin .sub (.bi .len (.cons (.v 2) .nil)) (.c (.int 3))) .nil))))) (.cons (.set 4 (.fS (.cmp .gt (.v 3) (.c (.int 0))) (.tup (.cons (.tup (.cons (.c (.str [107,101,101,112])) (.cons (.v 3) .nil))) .nil)) (.tup .nil))) (.cons (.set 5 (.bin .sub (.bin .sub (.bi .len (.cons (.v 2) .nil)) (.v 3)) (.c (.int 3)))) (.cons (.ret (.bin .add (.bin .add (.v 4) (.cl 16 (.cons (.v 0) (.cons (.v 1) (.cons (.sl (.v 2) (.yes (.v 3)) (.yes (.bin .add (.v 3) (.c (.int 3))))) .nil))))) (.fS (.cmp .gt (.v 5) (.c (.int 0))) (.tup (.cons (.tup (.cons (.c (.str [107,101,101,112])) (.cons (.v 5) .nil))) .nil)) (.tup .nil)))) .nil))))))⟩
noncomputable abbrev zI:Ev.Fn:=⟨3,4,(.cons (.iff (.cmp .eq (.cl 14 (.cons (.v 0) (.cons (.v 1) (.cons (.c (.int 5)) .nil)))) (.c (.int 0))) (.cons (.exp (.bJ au 23 (.cons (.v 2) .nil))) .nil) (.cons (.set 3 (.ix (.lst (.cons (.c (.str [97,110,110])) (.cons (.c (.str [98,111])) (.cons (.c (.str [97,110,110])) (.cons (.c (.str [99])) .nil))))) (.cl 14 (.cons (.v 0) (.cons (.bin .add (.v 1) (.c (.int 1))) (.cons (.c (.int 4)) .nil)))))) (.cons (.exp (.bJ au 22 (.cons (.v 2) (.cons (.v 3) (.cons (.cl 17 (.cons (.v 0) (.cons (.bin .add (.v 1) (.c (.int 2))) (.cons (.bJ au 25 (.cons (.v 2) .nil)) .nil)))) .nil))))) .nil))) .nil)⟩
noncomputable abbrev Ht:Ev.Ss:=(.cons (.exp (.cl 18 (.cons (.v 0) (.cons (.bin .add (.c (.int 700)) (.bin .mul (.c (.int 70)) (.v 2))) (.cons (.v 1) .nil))))) .nil)
noncomputable abbrev Dy:Ev.Fn:=⟨2,3,(.cons (.for (.one 2) (.fh (.cons (.c (.int 2)) .nil)) Ht) (.cons (.ret (.tup (.cons (.bJ au 26 (.cons (.v 1) .nil)) (.cons (.bJ au 25 (.cons (.v 1) .nil)) (.cons (.bJ au 29 (.cons (.v 1) .nil)) .nil))))) .nil))⟩
noncomputable abbrev Hu:Ev.Ss:=(.cons (.exp (.me .append (.v 3) (.cons (.bJ au 27 (.cons (.v 0) .nil)) .nil))) (.cons (.iff (.orr (.cmp .ne (.bJ au 26 (.cons (.v 0) .nil)) (.ix (.v 1) (.v 4))) (.cmp .ne (.bJ au 29 (.cons (.v 0) .nil)) (.tup (.cons (.v 4) (.cons (.bin .sub (.v 2) (.v 4)) .nil))))) (.cons (.ret (.c (.bl false))) .nil) .nil) .nil))
noncomputable abbrev Hv:Ev.S:=.for (.one 4) (.fh (.cons (.bin .sub (.v 2) (.c (.int 1))) (.cons (.neg (.c (.int 1))) (.cons (.neg (.c (.int 1))) .nil)))) Hu
noncomputable abbrev Hw:Ev.Ss:=(.cons (.iff (.orr (.cmp .ne (.bJ au 28 (.cons (.v 0) .nil)) (.ix (.v 3) (.bin .sub (.v 2) (.v 4)))) (.cmp .ne (.bJ au 26 (.cons (.v 0) .nil)) (.ix (.v 1) (.v 4)))) (.cons (.ret (.c (.bl false))) .nil) .nil) (.cons (.iff (.cmp .ne (.bJ au 29 (.cons (.v 0) .nil)) (.tup (.cons (.v 4) (.cons (.bin .sub (.v 2) (.v 4)) .nil)))) (.cons (.ret (.c (.bl false))) .nil) .nil) .nil))
noncomputable abbrev Hx:Ev.S:=.for (.one 4) (.fh (.cons (.c (.int 1)) (.cons (.bin .add (.v 2) (.c (.int 1))) .nil))) Hw
noncomputable abbrev Hy:Ev.S:=.ret (.cmp .eq (.comp (.v 5) (.one 5) (.seq (.v 3)) (.yes (.cmp .iH (.v 5) (.tup (.cons (.c (.str [119,114,105,116,101])) (.cons (.c (.str [102,111,108,100])) .nil)))))) (.lst .nil))
noncomputable abbrev Dz:Ev.Fn:=⟨2,6,(.cons (.set 2 (.bin .sub (.bi .len (.cons (.v 1) .nil)) (.c (.int 1)))) (.cons (.set 3 (.lst .nil)) (.cons Hv (.cons Hx (.cons Hy .nil)))))⟩
noncomputable abbrev Hz:Ev.Ss:=(.cons (.exp (.cl 18 (.cons (.v 0) (.cons (.bin .add (.c (.int 20)) (.bin .mul (.c (.int 70)) (.v 3))) (.cons (.v 1) .nil))))) (.cons (.exp (.me .append (.v 2) (.cons (.bJ au 26 (.cons (.v 1) .nil)) .nil))) .nil))
noncomputable abbrev HA:Ev.S:=.set 4 (.bin .sub (.bi .len (.cons (.v 2) .nil)) (.c (.int 1)))
noncomputable abbrev HB:Ev.S:=.iff (.orr (.cmp .ne (.bJ au 29 (.cons (.v 1) .nil)) (.tup (.cons (.v 4) (.cons (.c (.int 0)) .nil)))) (.nt (.cl 20 (.cons (.v 1) (.cons (.v 2) .nil))))) (.cons (.ret (.c (.bl false))) .nil) .nil
noncomputable abbrev HC:Ev.S:=.set 5 (.bin .add (.c (.int 1)) (.cl 14 (.cons (.v 0) (.cons (.c (.int 11)) (.cons (.v 4) .nil)))))
noncomputable abbrev HD:Ev.Ss:=(.cons (.exp (.bJ au 27 (.cons (.v 1) .nil))) .nil)
noncomputable abbrev HE:Ev.S:=.for (.one 6) (.fh (.cons (.v 5) .nil)) HD
noncomputable abbrev Bb:Ev.S:=.set 7 (.tup (.cons (.bJ au 26 (.cons (.v 1) .nil)) (.cons (.bJ au 25 (.cons (.v 1) .nil)) (.cons (.bJ au 29 (.cons (.v 1) .nil)) .nil))))
noncomputable abbrev Bc:Ev.S:=.tw au 8 30 33 1
noncomputable abbrev Bd:Ev.S:=.tw au 9 30 33 8
noncomputable abbrev xP:Ev.S:=.iff (.orr (.cmp .ne (.ix (.v 7) (.c (.int 0))) (.ix (.v 2) (.bin .sub (.v 4) (.v 5)))) (.cmp .ne (.ix (.v 7) (.c (.int 2))) (.tup (.cons (.bin .sub (.v 4) (.v 5)) (.cons (.v 5) .nil))))) (.cons (.ret (.c (.bl false))) .nil) .nil
noncomputable abbrev xQ:Ev.S:=.set 10 (.cl 19 (.cons (.v 0) (.cons (.v 1) .nil)))
noncomputable abbrev xR:Ev.S:=.iff (.cmp .ne (.ix (.v 10) (.c (.int 2))) (.tup (.cons (.bin .add (.bin .sub (.v 4) (.v 5)) (.c (.int 2))) (.cons (.c (.int 0)) .nil)))) (.cons (.ret (.c (.bl false))) .nil) .nil
noncomputable abbrev xS:Ev.S:=.iff (.cmp .ne (.tup (.cons (.bJ au 26 (.cons (.v 8) .nil)) (.cons (.bJ au 25 (.cons (.v 8) .nil)) (.cons (.bJ au 29 (.cons (.v 8) .nil)) .nil)))) (.v 7)) (.cons (.ret (.c (.bl false))) .nil) .nil
noncomputable abbrev xT:Ev.S:=.iff (.cmp .ne (.cl 19 (.cons (.v 0) (.cons (.v 8) .nil))) (.v 10)) (.cons (.ret (.c (.bl false))) .nil) .nil
noncomputable abbrev xU:Ev.S:=.iff (.cmp .ne (.tup (.cons (.bJ au 26 (.cons (.v 9) .nil)) (.cons (.bJ au 25 (.cons (.v 9) .nil)) (.cons (.bJ au 29 (.cons (.v 9) .nil)) .nil)))) (.v 7)) (.cons (.ret (.c (.bl false))) .nil) .nil
noncomputable abbrev HF:Ev.Ss:=(.cons (.exp (.bJ au 28 (.cons (.v 9) .nil))) .nil)
noncomputable abbrev su:Ev.S:=.for (.one 6) (.fh (.cons (.v 5) .nil)) HF
noncomputable abbrev HG:Ev.Ss:=(.cons (.iff (.orr (.cmp .ne (.bJ au 27 (.cons (.v 8) .nil)) (.bJ au 27 (.cons (.v 1) .nil))) (.cmp .ne (.bJ au 26 (.cons (.v 8) .nil)) (.bJ au 26 (.cons (.v 1) .nil)))) (.cons (.ret (.c (.bl false))) .nil) .nil) .nil)
noncomputable abbrev sy:Ev.S:=.for (.one 6) (.fh (.cons (.bin .add (.bin .sub (.v 4) (.v 5)) (.c (.int 2))) .nil)) HG
noncomputable abbrev sA:Ev.S:=.ret (.an (.cmp .eq (.bJ au 26 (.cons (.v 9) .nil)) (.ix (.v 2) (.neg (.c (.int 1))))) (.an (.cmp .eq (.bJ au 26 (.cons (.v 8) .nil)) (.lst .nil)) (.cmp .eq (.bJ au 29 (.cons (.v 9) .nil)) (.tup (.cons (.v 4) (.cons (.c (.int 0)) .nil))))))
noncomputable abbrev DA:Ev.Fn:=⟨1,11,(.cons (.new au 1 32 [.a 0,.c (.tup []),.c (.tup [])] (.cons (.cl 15 (.cons (.v 0) (.cons (.c (.int 0)) (.cons (.c (.int 5)) .nil)))) .nil)) (.cons (.set 2 (.lst (.cons (.bJ au 26 (.cons (.v 1) .nil)) .nil))) (.cons (.for (.one 3) (.fh (.cons (.bin .add (.c (.int 2)) (.cl 14 (.cons (.v 0) (.cons (.c (.int 10)) (.cons (.c (.int 6)) .nil))))) .nil)) Hz) (.cons HA (.cons HB (.cons HC (.cons HE (.cons Bb (.cons Bc (.cons Bd (.cons xP (.cons xQ (.cons xR (.cons xS (.cons xT (.cons xU (.cons su (.cons sy (.cons sA .nil)))))))))))))))))))⟩
noncomputable abbrev OV:Ev.Fn:=⟨3,4,(.cons (.set 3 (.cl 7 (.cons (.v 2) (.cons (.bJ au 25 (.cons (.v 0) .nil)) .nil)))) (.cons (.exp (.bJ au 24 (.cons (.v 0) (.cons (.c (.str [119,114,105,116,101])) (.cons (.bin .add (.bJ au 26 (.cons (.v 0) .nil)) (.lst (.cons (.tup (.cons (.v 1) (.cons (.v 2) .nil))) .nil))) (.cons (.v 3) .nil)))))) (.cons (.ret (.v 3)) .nil)))⟩
noncomputable abbrev OW:Ev.Fn:=⟨1,3,(.cons (.set 1 (.bJ au 26 (.cons (.v 0) .nil))) (.cons (.set 2 (.cl 12 (.cons (.v 1) .nil))) (.cons (.exp (.bJ au 24 (.cons (.v 0) (.cons (.c (.str [102,111,108,100])) (.cons (.v 2) (.cons (.bJ au 25 (.cons (.v 0) .nil)) .nil)))))) (.cons (.ret (.bin .sub (.bi .len (.cons (.v 1) .nil)) (.bi .len (.cons (.v 2) .nil)))) .nil))))⟩
noncomputable abbrev OY:Ev.Fn:=⟨4,4,(.cons (.exp (.fm au .app 0 1 (.cons (.tup (.cons (.v 1) (.cons (.iY (.v 2)) (.cons (.v 3) .nil)))) .nil))) (.cons (.pZ au 0 2) .nil))⟩
noncomputable abbrev OZ:Ev.Fn:=⟨1,1,(.cons (.ret (.fS (.fu au .lF 0 1 .nil) (.ix (.fu au .ix 0 1 (.cons (.neg (.c (.int 1))) .nil)) (.c (.int 2))) (.fld au 0 0))) .nil)⟩
noncomputable abbrev O4:Ev.Fn:=⟨1,1,(.cons (.ret (.fS (.fu au .lF 0 1 .nil) (.gP (.seq (.ix (.fu au .ix 0 1 (.cons (.neg (.c (.int 1))) .nil)) (.c (.int 1))))) (.lst .nil))) .nil)⟩
noncomputable abbrev O5:Ev.Fn:=⟨1,1,(.cons (.iff (.nt (.fu au .lF 0 1 .nil)) (.cons (.fC 3) .nil) .nil) (.cons (.exp (.mv au 0 2 1)) (.cons (.ret (.ix (.fu au .ix 0 2 (.cons (.neg (.c (.int 1))) .nil)) (.c (.int 0)))) .nil)))⟩
noncomputable abbrev O6:Ev.Fn:=⟨1,1,(.cons (.iff (.nt (.fu au .lF 0 2 .nil)) (.cons (.fC 3) .nil) .nil) (.cons (.exp (.mv au 0 1 2)) (.cons (.ret (.ix (.fu au .ix 0 1 (.cons (.neg (.c (.int 1))) .nil)) (.c (.int 0)))) .nil)))⟩
noncomputable abbrev O7:Ev.Fn:=⟨1,1,(.cons (.ret (.tup (.cons (.fu au .len 0 1 .nil) (.cons (.fu au .len 0 2 .nil) .nil)))) .nil)⟩
noncomputable abbrev O9:Ev.Fn:=⟨1,2,(.cons (.qT au 0 1 32) .nil)⟩
noncomputable def prog:List Ev.Fn:=[f0,f1,f2,f3,f4,f5,f6,f7,f8,f9,B9,ON,OO,OP,OQ,OR,OS,OU,zI,Dy,Dz,DA,OV,OW,OY,OZ,O4,O5,O6,O7,O9,⟨0,0,.nil⟩,⟨0,0,.cons (.exp (.cl 31 .nil)) .nil⟩,⟨0,0,.cons (.exp (.cl 32 .nil)) .nil⟩]
end Lw
namespace Lw
open PySem PySem.Spec PyProof.Rows L2 Sm
open Ev (D O Hh Fr R aQ E Es Eo T S Ss Fl Src bS bM TY BI ME)
noncomputable def top(i:Nat):Stmt:=PySem.Challenge.pw_pastways_k74_whole_back_and_twins.main.body.getD i (.Pass ⟨0,0,0,0⟩)
noncomputable def cB(i j:Nat):Stmt:=match top i with
 |.ClassDef _ _ _ a _ _ _ _ _ _ _=>a.getD j (.Pass ⟨0,0,0,0⟩)
 |s=>s
abbrev i0 (a:Nat->Addr) (d:Nat->FuncData):FI:=⟨"size",a 0,d 0,["part"]⟩
abbrev i1 (a:Nat->Addr) (d:Nat->FuncData):FI:=⟨"before",a 1,d 1,["change"]⟩
abbrev i2 (a:Nat->Addr) (d:Nat->FuncData):FI:=⟨"after",a 2,d 2,["change"]⟩
abbrev i3 (a:Nat->Addr) (d:Nat->FuncData):FI:=⟨"cost",a 3,d 3,["change"]⟩
abbrev i4 (a:Nat->Addr) (d:Nat->FuncData):FI:=⟨"form",a 4,d 4,["change"]⟩
abbrev i5 (a:Nat->Addr) (d:Nat->FuncData):FI:=⟨"stretch",a 5,d 5,["kept","gone","new"]⟩
abbrev i6 (a:Nat->Addr) (d:Nat->FuncData):FI:=⟨"fits",a 6,d 6,["change","text"]⟩
abbrev i7 (a:Nat->Addr) (d:Nat->FuncData):FI:=⟨"done",a 7,d 7,["change","text"]⟩
abbrev i8 (a:Nat->Addr) (d:Nat->FuncData):FI:=⟨"then",a 8,d 8,["one","other"]⟩
abbrev i9 (a:Nat->Addr) (d:Nat->FuncData):FI:=⟨"met",a 9,d 9,["left","gone_through"]⟩
abbrev Pa (a:Nat->Addr) (d:Nat->FuncData):FI:=⟨"taken",a 10,d 10,["parts","many"]⟩
abbrev Pb (a:Nat->Addr) (d:Nat->FuncData):FI:=⟨"parted",a 11,d 11,["part","many"]⟩
abbrev i12 (a:Nat->Addr) (d:Nat->FuncData):FI:=⟨"squeezed",a 12,d 12,["rows"]⟩
abbrev Pc (a:Nat->Addr) (d:Nat->FuncData):FI:=⟨"_law_cell",a 13,d 13,["_law_script","_law_k"]⟩
abbrev Pd (a:Nat->Addr) (d:Nat->FuncData):FI:=⟨"_law_drawn",a 14,d 14,["_law_script","_law_k","_law_many"]⟩
abbrev Pe (a:Nat->Addr) (d:Nat->FuncData):FI:=⟨"_law_text",a 15,d 15,["_law_script","_law_at","_law_most"]⟩
abbrev Pf (a:Nat->Addr) (d:Nat->FuncData):FI:=⟨"_law_change",a 16,d 16,["_law_script","_law_at","_law_text_here"]⟩
abbrev Pg (a:Nat->Addr) (d:Nat->FuncData):FI:=⟨"_law_small",a 17,d 17,["_law_script","_law_at","_law_text_here"]⟩
abbrev Ph (a:Nat->Addr) (d:Nat->FuncData):FI:=⟨"_law_step",a 18,d 18,["_law_script","_law_at","_law_ledger"]⟩
abbrev Pj (a:Nat->Addr) (d:Nat->FuncData):FI:=⟨"_law_go_on",a 19,d 19,["_law_script","_law_ledger"]⟩
abbrev Pk (a:Nat->Addr) (d:Nat->FuncData):FI:=⟨"_law_goes",a 20,d 20,["_law_ledger","_law_rows"]⟩
abbrev HH (a:Nat->Addr) (d:Nat->FuncData):FI:=⟨"law",a 21,d 21,["_law_script"]⟩
abbrev HJ (a:Nat->Addr) (d:Nat->FuncData):FI:=⟨"",a 22,d 22,["self","own","change"]⟩
abbrev HK (a:Nat->Addr) (d:Nat->FuncData):FI:=⟨"",a 23,d 23,["self"]⟩
abbrev HL (a:Nat->Addr) (d:Nat->FuncData):FI:=⟨"",a 24,d 24,["self","word","rows","now"]⟩
abbrev HM (a:Nat->Addr) (d:Nat->FuncData):FI:=⟨"",a 25,d 25,["self"]⟩
abbrev HN (a:Nat->Addr) (d:Nat->FuncData):FI:=⟨"",a 26,d 26,["self"]⟩
abbrev HQ (a:Nat->Addr) (d:Nat->FuncData):FI:=⟨"",a 27,d 27,["self"]⟩
abbrev HS (a:Nat->Addr) (d:Nat->FuncData):FI:=⟨"",a 28,d 28,["self"]⟩
abbrev HU (a:Nat->Addr) (d:Nat->FuncData):FI:=⟨"",a 29,d 29,["self"]⟩
abbrev HV (a:Nat->Addr) (d:Nat->FuncData):FI:=⟨"",a 30,d 30,["self"]⟩
abbrev ju (a:Nat->Addr) (d:Nat->FuncData):qa:=⟨au,[("write",0),("fold",1),("step",2),("text",3),("entries",4),("back",5),("forth",6),("counts",7),("twin",8)],⟨"",a 31,d 31,["self","text"]⟩,[.a 0,.c (.tup []),.c (.tup [])]⟩
noncomputable def sC:List Str:=["len","list","min","range","reversed","sum","tuple"]
def Be:("len" : Str)∈sC:=by decide +kernel
def xV:("list" : Str)∈sC:=by decide +kernel
def Rz:("min" : Str)∈sC:=by decide +kernel
def tT:("range" : Str)∈sC:=by decide +kernel
def Bf:("reversed" : Str)∈sC:=by decide +kernel
def RA:("sum" : Str)∈sC:=by decide +kernel
def Kq:("tuple" : Str)∈sC:=by decide +kernel
noncomputable def tb (a:Nat->Addr) (d:Nat->FuncData):Tb:=⟨prog,100000,[i0 a d,i1 a d,i2 a d,i3 a d,i4 a d,i5 a d,i6 a d,i7 a d,i8 a d,i9 a d,Pa a d,Pb a d,i12 a d,Pc a d,Pd a d,Pe a d,Pf a d,Pg a d,Ph a d,Pj a d,Pk a d,HH a d],sC,[("__name__",.str [108,97,119,95,112,97,115,116,119,97,121,115,95,107,55,52,95,119,104,111,108,101,95,98,97,99,107,95,97,110,100,95,116,119,105,110,115])],[],[HJ a d,HK a d,HL a d,HM a d,HN a d,HQ a d,HS a d,HU a d,HV a d],[ju a d]⟩
section
variable{a:Nat->Addr}{d:Nat->FuncData}{n:Nat}
def cT:ju a d∈(tb a d).oc:=(.head _)
def x9:mP (tb a d) (ju a d) au 0 "first" :=⟨cT,rfl,[102,105,114,115,116],rfl,by decide +kernel⟩
def fY:mP (tb a d) (ju a d) au 1 "steps" :=⟨cT,rfl,[115,116,101,112,115],rfl,by decide +kernel⟩
def fZ:mP (tb a d) (ju a d) au 2 "later" :=⟨cT,rfl,[108,97,116,101,114],rfl,by decide +kernel⟩
def Fp:¬ ud ("later" : Str):=by unfold ud;decide +kernel
abbrev n0:List Str:=["part"]
def s0:bg n0 ["part"] (aK (top 2)):=⟨rfl,rfl,rfl,by decide +kernel,rfl,by decide +kernel,by decide +kernel⟩
abbrev n1:List Str:=["change"]
def s1:bg n1 ["change"] (aK (top 3)):=⟨rfl,rfl,rfl,by decide +kernel,rfl,by decide +kernel,by decide +kernel⟩
abbrev n2:List Str:=["change"]
def s2:bg n2 ["change"] (aK (top 4)):=⟨rfl,rfl,rfl,by decide +kernel,rfl,by decide +kernel,by decide +kernel⟩
abbrev n3:List Str:=["change"]
def s3:bg n3 ["change"] (aK (top 5)):=⟨rfl,rfl,rfl,by decide +kernel,rfl,by decide +kernel,by decide +kernel⟩
abbrev n4:List Str:=["change","parts","kept","gone","new","word","what"]
def s4:bg n4 ["change"] (aK (top 6)):=⟨rfl,rfl,rfl,by decide +kernel,rfl,by decide +kernel,by decide +kernel⟩
abbrev n5:List Str:=["kept","gone","new","parts"]
def s5:bg n5 ["kept","gone","new"] (aK (top 7)):=⟨rfl,rfl,rfl,by decide +kernel,rfl,by decide +kernel,by decide +kernel⟩
abbrev n6:List Str:=["change","text","place","part"]
def s6:bg n6 ["change","text"] (aK (top 13)):=⟨rfl,rfl,rfl,by decide +kernel,rfl,by decide +kernel,by decide +kernel⟩
abbrev n7:List Str:=["change","text","pieces","place","word","what"]
def s7:bg n7 ["change","text"] (aK (top 14)):=⟨rfl,rfl,rfl,by decide +kernel,rfl,by decide +kernel,by decide +kernel⟩
abbrev n8:List Str:=["one","other","ones","others","parts","many"]
def s8:bg n8 ["one","other"] (aK (top 15)):=⟨rfl,rfl,rfl,by decide +kernel,rfl,by decide +kernel,by decide +kernel⟩
abbrev n9:List Str:=["left","gone_through"]
def s9:bg n9 ["left","gone_through"] (aK (top 16)):=⟨rfl,rfl,rfl,by decide +kernel,rfl,by decide +kernel,by decide +kernel⟩
abbrev Pn:List Str:=["parts","many","halves"]
def R0:bg Pn ["parts","many"] (aK (top 17)):=⟨rfl,rfl,rfl,by decide +kernel,rfl,by decide +kernel,by decide +kernel⟩
abbrev Po:List Str:=["part","many","word"]
def Gf:bg Po ["part","many"] (aK (top 18)):=⟨rfl,rfl,rfl,by decide +kernel,rfl,by decide +kernel,by decide +kernel⟩
abbrev Pp:List Str:=["rows","kept","own","change","whole"]
def s12:bg Pp ["rows"] (aK (top 20)):=⟨rfl,rfl,rfl,by decide +kernel,rfl,by decide +kernel,by decide +kernel⟩
abbrev Pq:List Str:=["_law_script","_law_k"]
def W4:bg Pq ["_law_script","_law_k"] (aK (top 24)):=⟨rfl,rfl,rfl,by decide +kernel,rfl,by decide +kernel,by decide +kernel⟩
abbrev Pr:List Str:=["_law_script","_law_k","_law_many","_law_cell_here"]
def W5:bg Pr ["_law_script","_law_k","_law_many"] (aK (top 25)):=⟨rfl,rfl,rfl,by decide +kernel,rfl,by decide +kernel,by decide +kernel⟩
abbrev Pu:List Str:=["_law_script","_law_at","_law_most"]
def W6:bg Pu ["_law_script","_law_at","_law_most"] (aK (top 26)):=⟨rfl,rfl,rfl,by decide +kernel,rfl,by decide +kernel,by decide +kernel⟩
abbrev Pw:List Str:=["_law_script","_law_at","_law_text_here","_law_found","_law_k","_law_new","_law_is_kept"]
def Px:bg Pw ["_law_script","_law_at","_law_text_here"] (aK (top 27)):=⟨rfl,rfl,rfl,by decide +kernel,rfl,by decide +kernel,by decide +kernel⟩
abbrev Py:List Str:=["_law_script","_law_at","_law_text_here","_law_place","_law_here","_law_rest"]
def W7:bg Py ["_law_script","_law_at","_law_text_here"] (aK (top 28)):=⟨rfl,rfl,rfl,by decide +kernel,rfl,by decide +kernel,by decide +kernel⟩
abbrev Pz:List Str:=["_law_script","_law_at","_law_ledger","_law_own"]
def W8:bg Pz ["_law_script","_law_at","_law_ledger"] (aK (top 29)):=⟨rfl,rfl,rfl,by decide +kernel,rfl,by decide +kernel,by decide +kernel⟩
abbrev PB:List Str:=["_law_script","_law_ledger","_law_k"]
def W9:bg PB ["_law_script","_law_ledger"] (aK (top 30)):=⟨rfl,rfl,rfl,by decide +kernel,rfl,by decide +kernel,by decide +kernel⟩
abbrev PC:List Str:=["_law_ledger","_law_rows","_law_many","_law_words","_law_k"]
def Xa:bg PC ["_law_ledger","_law_rows"] (aK (top 31)):=⟨rfl,rfl,rfl,by decide +kernel,rfl,by decide +kernel,by decide +kernel⟩
abbrev PD:List Str:=["_law_script","_law_ledger","_law_rows","_law_k","_law_many","_law_back","_law_turn","_law_before_it","_law_twin","_law_third","_law_there"]
def Xb:bg PD ["_law_script"] (aK (top 32)):=⟨rfl,rfl,rfl,by decide +kernel,rfl,by decide +kernel,by decide +kernel⟩
abbrev PF:List Str:=["self","own","change","now"]
def Xc:bg PF ["self","own","change"] (aK (cB 22 1)):=⟨rfl,rfl,rfl,by decide +kernel,rfl,by decide +kernel,by decide +kernel⟩
abbrev PJ:List Str:=["self","rows","fewer"]
def Xd:bg PJ ["self"] (aK (cB 22 2)):=⟨rfl,rfl,rfl,by decide +kernel,rfl,by decide +kernel,by decide +kernel⟩
abbrev PK:List Str:=["self","word","rows","now"]
def Xe:bg PK ["self","word","rows","now"] (aK (cB 22 3)):=⟨rfl,rfl,rfl,by decide +kernel,rfl,by decide +kernel,by decide +kernel⟩
abbrev PL:List Str:=["self"]
def Xf:bg PL ["self"] (aK (cB 22 4)):=⟨rfl,rfl,rfl,by decide +kernel,rfl,by decide +kernel,by decide +kernel⟩
abbrev PM:List Str:=["self"]
def Xg:bg PM ["self"] (aK (cB 22 5)):=⟨rfl,rfl,rfl,by decide +kernel,rfl,by decide +kernel,by decide +kernel⟩
abbrev PN:List Str:=["self"]
def Xh:bg PN ["self"] (aK (cB 22 7)):=⟨rfl,rfl,rfl,by decide +kernel,rfl,by decide +kernel,by decide +kernel⟩
abbrev PR:List Str:=["self"]
def Xi:bg PR ["self"] (aK (cB 22 8)):=⟨rfl,rfl,rfl,by decide +kernel,rfl,by decide +kernel,by decide +kernel⟩
abbrev PU:List Str:=["self"]
def Xj:bg PU ["self"] (aK (cB 22 9)):=⟨rfl,rfl,rfl,by decide +kernel,rfl,by decide +kernel,by decide +kernel⟩
abbrev PV:List Str:=["self","other"]
def Xk:bg PV ["self"] (aK (cB 22 10)):=⟨rfl,rfl,rfl,by decide +kernel,rfl,by decide +kernel,by decide +kernel⟩
set_option maxHeartbeats 0 in
def dc:allB (tb a d) n [(f0.body,top 2,n0),(f1.body,top 3,n1),(f2.body,top 4,n2),(f3.body,top 5,n3),(f4.body,top 6,n4),(f5.body,top 7,n5),(f6.body,top 13,n6),(f7.body,top 14,n7),(f8.body,top 15,n8),(f9.body,top 16,n9),(B9.body,top 17,Pn),(ON.body,top 18,Po),(OO.body,top 20,Pp),(OP.body,top 24,Pq),(OQ.body,top 25,Pr),(OR.body,top 26,Pu),(OS.body,top 27,Pw),(OU.body,top 28,Py),(zI.body,top 29,Pz),(Dy.body,top 30,PB),(Dz.body,top 31,PC),(DA.body,top 32,PD),(OV.body,cB 22 1,PF),(OW.body,cB 22 2,PJ),(OY.body,cB 22 3,PK),(OZ.body,cB 22 4,PL),(O4.body,cB 22 5,PM),(O5.body,cB 22 7,PN),(O6.body,cB 22 8,PR),(O7.body,cB 22 9,PU),(O9.body,cB 22 10,PV)]:=by
 refine⟨?_,?_,?_,?_,?_,?_,?_,?_,?_,?_,?_,?_,?_,?_,?_,?_,?_,?_,?_,?_,?_,?_,?_,?_,?_,?_,?_,?_,?_,?_,?_,trivial⟩;all_goals try dsimp only
 all_goals repeat (first
  | ((with_reducible show JE _ _ _ _ _ _ _ (.BoolOp _ [_] _));refine LD ?_)
  | ((with_reducible show lI _ _ _ _ _ _ (.cons (.qT au _ _ _) .nil) _);refine Jl (eO:=31) rfl rfl (by decide +kernel) (by decide +kernel) (by decide +kernel) (by decide) cT rfl rfl rfl rfl rfl rfl (by decide +kernel) (by decide +kernel) (by decide +kernel) (by decide +kernel) rfl xV ?_)
  | ((with_reducible show JE _ _ _ _ _ _ (.v _) _);exact jv (by decide +kernel))
  | ((with_reducible show JA _ _ _ _ _ _ (.cons _ _) _);refine IA ?_ ?_)
  | ((with_reducible show lI _ _ _ _ _ _ (.cons _ _) _);refine Ea ?_ ?_)
  | ((with_reducible show JA _ _ _ _ _ _ .nil _);refine Ly)
  | ((with_reducible show lI _ _ _ _ _ _ .nil _);refine IJ)
  | ((with_reducible show JE _ _ _ _ _ _ (.c (.int _)) _);refine Lv)
  | ((with_reducible show JE _ _ _ _ _ _ (.cl _ _) _);refine Wc (by decide +kernel) rfl rfl ?_)
  | ((with_reducible show JE _ _ _ _ _ _ (.ix _ _) _);refine QG (λX g=>QS) ?_ ?_)
  | ((with_reducible show JS _ _ _ _ _ _ (.ret _) _);refine LU ?_)
  | ((with_reducible show JE _ _ _ _ _ _ (.c (.str _)) _);refine Lx)
  | ((with_reducible show JE _ _ _ _ _ _ (.bin .add _ _) _);refine oB (λX g=>Mb) ?_ ?_)
  | ((with_reducible show JS _ _ _ _ _ _ (.iff _ _ _) _);refine LV ?_ ?_ ?_)
  | ((with_reducible show JE _ _ _ _ _ _ (.tup _) _);refine Lz ?_)
  | ((with_reducible show JT _ _ _ _ _ _ (.cmp .ne _ _) _);refine oE (λX g=>QN g) ?_ ?_ (mC _))
  | ((with_reducible show JS _ _ _ _ _ _ (.exp _) _);refine LS ?_)
  | ((with_reducible show JT _ _ _ _ _ _ (.cmp .eq _ _) _);refine oE (λX g=>Gm g) ?_ ?_ (mC _))
  | ((with_reducible show JE _ _ _ _ _ _ (.lst _) _);refine LA ?_)
  | ((with_reducible show JE _ _ _ _ _ _ (.bi .len _) _);refine Ai (x:="len") (id:="len") (λX g=>Mq) ?_ (hb:=Be) (hv:=by decide +kernel))
  | ((with_reducible show JE _ _ _ _ _ _ (.bin .sub _ _) _);refine oB (λX g=>Mc) ?_ ?_)
  | ((with_reducible show JG _ _ _ _ _ _ (.one _) _);exact Wa (by decide +kernel))
  | ((with_reducible show JE _ _ _ _ _ _ (.bJ au 26 (.cons _ .nil)) _);exact jd (f':=4) (mn:="entries") cT rfl (.tail _ (.tail _ (.tail _ (.tail _ (.head _))))) rfl (by decide +kernel))
  | ((with_reducible show JE _ _ _ _ _ _ (.bin .mul _ _) _);refine oB (λX g=>Mn) ?_ ?_)
  | ((with_reducible show JS _ _ _ _ _ _ (.for _ _ _) _);refine LX ?_ ?_ ?_)
  | ((with_reducible show JE _ _ _ _ _ _ (.me .append _ (.cons _ _)) _);refine Aj aaw abl abk (λX g=>Cf) rfl ?_ ?_)
  | ((with_reducible show JE _ _ _ _ _ _ (.c (.bl _)) _);refine QD)
  | ((with_reducible show JI _ _ _ _ _ _ (.seq _) _ _);refine LP ?_)
  | ((with_reducible show JO _ _ _ _ _ _ (.yes _) _);refine LL ?_)
  | ((with_reducible show JE _ _ _ _ _ _ (.neg _) _);refine LC ?_)
  | ((with_reducible show JE _ _ _ _ _ _ (.bJ au 29 (.cons _ .nil)) _);exact jd (f':=7) (mn:="counts") cT rfl (.tail _ (.tail _ (.tail _ (.tail _ (.tail _ (.tail _ (.tail _ (.head _)))))))) rfl (by decide +kernel))
  | ((with_reducible show JT _ _ _ _ _ _ (.orr _ _) _);refine UR ?_ ?_)
  | ((with_reducible show JW _ _ _ _ _ _ (.orr _ _) (.BoolOp _ (_ :: _ :: _) _));refine BQ ?_ ?_)
  | ((with_reducible show JW _ _ _ _ _ _ _ (.BoolOp .Or [_] _));refine IB ?_)
  | ((with_reducible show JI _ _ _ _ _ _ (.fh (.cons _ .nil)) _ _);refine IE ?_ (hb:=tT))
  | ((with_reducible show JE _ _ _ _ _ _ (.bJ au 25 (.cons _ .nil)) _);exact jd (f':=3) (mn:="text") cT rfl (.tail _ (.tail _ (.tail _ (.head _)))) rfl (by decide +kernel))
  | ((with_reducible show ue _ _ _ _ _ _ (_ :: _) _);refine Wb (by decide +kernel) ?_)
  | ((with_reducible show JT _ _ _ _ _ _ (.cmp .gt _ _) _);refine oE (λX g=>Gn) ?_ ?_ (mC _))
  | ((with_reducible show JE _ _ _ _ _ _ (.bin .mod _ _) _);refine oB (λX g=>Me) ?_ ?_)
  | ((with_reducible show JE _ _ _ _ _ _ (.fS _ _ _) _);refine LF ?_ ?_ ?_)
  | ((with_reducible show JE _ _ _ _ _ _ (.comp _ _ _ _) _);refine QX (by decide +kernel) (by decide +kernel) ?_ ?_ ?_ ?_)
  | ((with_reducible show JE _ _ _ _ _ _ (.sl _ _ _) _);refine QI (λX g=>Mm) ?_ ?_ ?_)
  | ((with_reducible show JE _ _ _ _ _ _ (.cmp .eq _ _) _);refine BP (λX g=>Gm g) ?_ ?_ (mC _))
  | ((with_reducible show JS _ _ _ _ _ _ (.fC _) _);refine Mv)
  | ((with_reducible show JC _ _ _ _ _ _ (.yes _) _);refine LY ?_)
  | ((with_reducible show JT _ _ _ _ _ _ (.an _ _) _);refine UQ ?_ ?_)
  | ((with_reducible show JW _ _ _ _ _ _ (.an _ _) (.BoolOp _ (_ :: _ :: _) _));refine Ga ?_ ?_)
  | ((with_reducible show JW _ _ _ _ _ _ _ (.BoolOp .And [_] _));refine LH ?_)
  | ((with_reducible show JT _ _ _ _ _ _ (.nt _) _);refine QF ?_)
  | ((with_reducible show JE _ _ _ _ _ _ (.me .pop _ .nil) _);refine LM aaw acm ack (λX g=>Ms) rfl ?_)
  | ((with_reducible show JE _ _ _ _ _ _ (.bin .fdiv _ _) _);refine oB (λX g=>IV) ?_ ?_)
  | ((with_reducible show JE _ _ _ _ _ _ (.bJ au 27 (.cons _ .nil)) _);exact jd (f':=5) (mn:="back") cT rfl (.tail _ (.tail _ (.tail _ (.tail _ (.tail _ (.head _)))))) rfl (by decide +kernel))
  | ((with_reducible show JE _ _ _ _ _ _ (.bi .sum _) _);refine Ai (x:="sum") (id:="sum") (λX g=>Mp g) ?_ (hb:=RA) (hv:=by decide +kernel))
  | ((with_reducible show JG _ _ _ _ _ _ (.many _) _);refine II ?_)
  | ((with_reducible show ue _ _ _ _ _ _ [] _);refine IG)
  | ((with_reducible show JE _ _ _ _ _ _ (.me .extend _ (.cons _ _)) _);refine Aj aaw PySem.F.slot_list_extend PySem.F.type_list_extend (λX g=>Cg) rfl ?_ ?_)
  | ((with_reducible show JE _ _ _ _ _ _ (.iY _) _);refine Mu ?_ (h1:=Kq))
  | ((with_reducible show JT _ _ _ _ _ _ (.fu au .lF _ 1 _) _);exact yO fY (by decide +kernel))
  | ((with_reducible show JE _ _ _ _ _ _ (.fu au .ix _ 1 (.cons (.neg (.c (.int 1))) .nil)) _);exact vZ fY (by decide +kernel))
  | ((with_reducible show JE _ _ _ _ _ _ (.me .join _ (.cons _ _)) _);refine Aj PySem.F.plainAttrs_str PySem.F.slot_str_join PySem.F.type_str_join (λX g=>Ja) rfl ?_ ?_)
  | ((with_reducible show JE _ _ _ _ _ _ (.gP (.rev _)) _);refine Jf ?_ (h1:=xV) (hb:=Bf))
  | ((with_reducible show JO _ _ _ _ _ _ .no _);refine QH)
  | ((with_reducible show JT _ _ _ _ _ _ (.cmp .lt _ _) _);refine oE (λX g=>QO) ?_ ?_ (mC _))
  | ((with_reducible show JE _ _ _ _ _ _ (.bJ au 28 (.cons _ .nil)) _);exact jd (f':=6) (mn:="forth") cT rfl (.tail _ (.tail _ (.tail _ (.tail _ (.tail _ (.tail _ (.head _))))))) rfl (by decide +kernel))
  | ((with_reducible show JS _ _ _ _ _ _ (.tw au _ _ _ _) _);refine Q0 (fd:=32) (eO:=31) rfl rfl rfl rfl ?_)
  | ((with_reducible show JE _ _ _ _ _ _ (.bJ au 30 (.cons _ .nil)) _);exact jd (f':=8) (mn:="twin") cT rfl (.tail _ (.tail _ (.tail _ (.tail _ (.tail _ (.tail _ (.tail _ (.tail _ (.head _))))))))) rfl (by decide +kernel))
  | ((with_reducible show JE _ _ _ _ _ _ (.an _ _) (.BoolOp _ (_ :: _ :: _) _));refine QE ?_ ?_)
  | ((with_reducible show JE _ _ _ _ _ _ (.bJ au 24 (.cons _ (.cons _ _))) _);refine Cq (f':=2) (mn:="step") cT rfl (.tail _ (.tail _ (.head _))) rfl (by decide +kernel) ?_)
  | ((with_reducible show JE _ _ _ _ _ _ (.fld au _ 0) _);exact MH x9 (by decide +kernel))
  | ((with_reducible show JS _ _ _ _ _ _ (.pY _ _) _);refine LW ?_ ?_)
  | ((with_reducible show JE _ _ _ _ _ _ (.bi .min _) _);refine Ai (x:="min") (id:="min") (λX g=>Mr g) ?_ (hb:=Rz) (hv:=by decide +kernel))
  | ((with_reducible show JC _ _ _ _ _ _ .no _);refine QK)
  | ((with_reducible show JE _ _ _ _ _ _ (.cmp .gt _ _) _);refine BP (λX g=>Gn) ?_ ?_ (mC _))
  | ((with_reducible show JE _ _ _ _ _ _ (.bJ au 23 (.cons _ .nil)) _);exact jd (f':=1) (mn:="fold") cT rfl (.tail _ (.head _)) rfl (by decide +kernel))
  | ((with_reducible show JE _ _ _ _ _ _ (.bJ au 22 (.cons _ (.cons _ _))) _);refine Cq (f':=0) (mn:="write") cT rfl (.head _) rfl (by decide +kernel) ?_)
  | ((with_reducible show JI _ _ _ _ _ _ (.fh (.cons _ (.cons _ (.cons _ .nil)))) _ _);refine Je ?_ (hb:=tT))
  | ((with_reducible show JI _ _ _ _ _ _ (.fh (.cons _ (.cons _ .nil))) _ _);refine IF ?_ (hb:=tT))
  | ((with_reducible show JT _ _ _ _ _ _ (.cmp .iH _ _) _);refine oE (λX g=>Ei g) ?_ ?_ (by with_unfolding_all rfl))
  | ((with_reducible show JS _ _ _ _ _ _ (.new au _ _ _ _) _);refine MO (eO:=31) (by decide +kernel) cT rfl rfl (by decide +kernel) rfl rfl (by decide +kernel) (by decide +kernel) (by decide +kernel) rfl ?_)
  | ((with_reducible show JE _ _ _ _ _ _ (.fm au .app _ 1 _) _);refine Ji fY (.inl rfl) (by decide +kernel) ?_)
  | ((with_reducible show JS _ _ _ _ _ _ (.pZ au _ 2) _);exact MK fZ Fp (by decide +kernel))
  | ((with_reducible show JE _ _ _ _ _ _ (.gP (.seq _)) _);refine Mt ?_ (h1:=xV))
  | ((with_reducible show JE _ _ _ _ _ _ (.mv au _ 2 1) _);exact Gw fZ fY (by decide +kernel))
  | ((with_reducible show JE _ _ _ _ _ _ (.fu au .ix _ 2 (.cons (.neg (.c (.int 1))) .nil)) _);exact vZ fZ (by decide +kernel))
  | ((with_reducible show JT _ _ _ _ _ _ (.fu au .lF _ 2 _) _);exact yO fZ (by decide +kernel))
  | ((with_reducible show JE _ _ _ _ _ _ (.mv au _ 1 2) _);exact Gw fY fZ (by decide +kernel))
  | ((with_reducible show JE _ _ _ _ _ _ (.fu au .len _ 1 _) _);exact yN fY (by decide +kernel) (hb:=Be))
  | ((with_reducible show JE _ _ _ _ _ _ (.fu au .len _ 2 _) _);exact yN fZ (by decide +kernel) (hb:=Be))
  | ((with_reducible show JS _ _ _ _ _ _ (.set _ _) _);refine UP ?_ ?_;decide +kernel)
  | ((with_reducible show JT _ _ _ _ _ _ _ _);refine LJ ?_))
end
def g9{α:Type _}{l:List α}(h:l.length=1):∃a,l=[a]:=by
 rcases l with _|⟨a,_|⟨b,l⟩⟩<;>simp at h ⊢
def lu{α:Type _}{l:List α}(h:l.length=2):∃a b,l=[a,b]:=by
 rcases l with _|⟨a,l⟩
 .simp at h
 .obtain⟨b,rfl⟩:=g9 (l:=l) (by simpa using h);exact⟨a,b,rfl⟩
def kH{α:Type _}{l:List α}(h:l.length=3):∃a b c,l=[a,b,c]:=by
 rcases l with _|⟨a,l⟩
 .simp at h
 .obtain⟨b,c,rfl⟩:=lu (l:=l) (by simpa using h);exact⟨a,b,c,rfl⟩
def Vd{α:Type _}{l:List α}(h:l.length=4):∃a b c d,l=[a,b,c,d]:=by
 rcases l with _|⟨a,l⟩
 .simp at h
 .obtain⟨b,c,d,rfl⟩:=kH (l:=l) (by simpa using h);exact⟨a,b,c,d,rfl⟩
def Fq:bg ["self","text"] ["self","text"] (aK (cB 22 0)):=⟨rfl,rfl,rfl,by decide +kernel,rfl,by decide +kernel,by decide +kernel⟩
def Ft:v5 (aK (cB 22 0)) ["self","text"] (jJ au 0 au.nm [.a 0,.c (.tup []),.c (.tup [])]) (fW (cB 22 0)):=by
 exact Jk (by decide +kernel) (by decide +kernel) (Ct (by decide +kernel) (Ct (by decide +kernel) (Jj)))
def Fv:∀p∈jJ au 0 au.nm [.a 0,.c (.tup []),.c (.tup [])],∃f∈au.nm,p.1=ay f:=by
 exact List.forall_mem_cons.mpr ⟨⟨_,(.head _),rfl⟩,List.forall_mem_cons.mpr ⟨⟨_,(.tail _ (.head _)),rfl⟩,List.forall_mem_cons.mpr ⟨⟨_,(.tail _ (.tail _ (.head _))),rfl⟩,λ_ h=>nomatch h⟩⟩⟩
structure Mg(K:PySem.W.Frag)(C:Addr)(x q:Str)(st:Stmt)(p:Addr)(d:FuncData):Prop where
 a:PySem.W.findIn K (.ref C) x=some (some (.ref p))
 i:PySem.W.isFn K (.ref p)=true
 f:qS K x q st p d
structure Og(K:PySem.W.Frag)(x:Str)(C:Addr):Prop where
 ns:PySem.W.nsIn K mainGlobals x=some (some (.ref C))
 pg:PySem.W.plainGet K C Str.empty=true
 hd:PySem.W.hasDictIn K C=true
 po:PySem.W.plainOver K C=true
 sa:PySem.W.findIn K (.ref C) "__setattr__" = some (some (.builtin "object.__setattr__"))
 Xl:PySem.W.makesIn K C=true
 kc:PySem.W.keepIn K (.ref C)=true
structure Fg(K:PySem.W.Frag)(x:Str)(i:Nat)(p:Addr)(d:FuncData):Prop where
 a:PySem.W.nsIn K mainGlobals x=some (some (.ref p))
 f:qS K x x (top i) p d
def Fg.t{K:PySem.W.Frag}{h:Heap}{mg:Str->Option Value}{x:Str}{i:Nat}{p:Addr}{d:FuncData}{ps:List Str}(F:Fg K x i p d)(X:K.In h)(G:h.Ns mainGlobals mg)(b:Binds K d ps []):mg x=some (.ref p)/\PySem.W.keepIn K (.ref p)=true/\Binds K d ps []:=⟨abM X G F.a,F.f.kp,b⟩
def all_mk {l:PySem.W.OpenLaw}{w:World}{K:PySem.W.Frag}{h:Heap}{mg:Str->Option Value}{fa p0 p1 p2 p3 p4 p5 p6 p7 p8 p9 SG SH SI SJ SK SM SN SO SQ SS SV PX:Addr}{d0 d1 d2 d3 d4 d5 d6 d7 d8 d9 SW SX SY S5 S6 S7 S8 S9 Tc Td Te PY:FuncData}(X:K.In h) (G:h.Ns mainGlobals mg) (Xm:mg "law" = some (.ref fa))
  (F0:Fg K "size" 2 p0 d0)
  (F1:Fg K "before" 3 p1 d1)
  (F2:Fg K "after" 4 p2 d2)
  (F3:Fg K "cost" 5 p3 d3)
  (F4:Fg K "form" 6 p4 d4)
  (F5:Fg K "stretch" 7 p5 d5)
  (F6:Fg K "fits" 13 p6 d6)
  (F7:Fg K "done" 14 p7 d7)
  (F8:Fg K "then" 15 p8 d8)
  (F9:Fg K "met" 16 p9 d9)
  (PZ:Fg K "taken" 17 SG SW)
  (P0:Fg K "parted" 18 SH SX)
  (P1:Fg K "squeezed" 20 SI SY)
  (P4:Fg K "_law_cell" 24 SJ S5)
  (P5:Fg K "_law_drawn" 25 SK S6)
  (P6:Fg K "_law_text" 26 SM S7)
  (P7:Fg K "_law_change" 27 SN S8)
  (P8:Fg K "_law_small" 28 SO S9)
  (P9:Fg K "_law_step" 29 SQ Tc)
  (Qa:Fg K "_law_go_on" 30 SS Td)
  (Qc:Fg K "_law_goes" 31 SV Te)
  (DB:Fg K "law" 32 PX PY)
  {jb Tf Tg Ti Tj To Tp Tt Tu Tv Tw:Addr} {Tz TF TH TJ TL TM TN TQ TR TU:FuncData}
  (O0:Og K "Ledger" jb) (I0:Mg K jb "__init__" "Ledger.__init__" (cB 22 0) Tw TU)
  (Ve:PySem.W.findIn K (.ref jb) "first" = some none)
  (Vf:PySem.W.findIn K (.ref jb) "steps" = some none)
  (Vg:PySem.W.findIn K (.ref jb) "later" = some none)
  (zJ:Mg K jb "write" "Ledger.write" (cB 22 1) Tf Tz)
  (zK:Mg K jb "fold" "Ledger.fold" (cB 22 2) Tg TF)
  (zL:Mg K jb "step" "Ledger.step" (cB 22 3) Ti TH)
  (zM:Mg K jb "text" "Ledger.text" (cB 22 4) Tj TJ)
  (zN:Mg K jb "entries" "Ledger.entries" (cB 22 5) To TL)
  (zO:Mg K jb "back" "Ledger.back" (cB 22 7) Tp TM)
  (zP:Mg K jb "forth" "Ledger.forth" (cB 22 8) Tt TN)
  (zQ:Mg K jb "counts" "Ledger.counts" (cB 22 9) Tu TQ)
  (zR:Mg K jb "twin" "Ledger.twin" (cB 22 10) Tv TR)
  (z0:PySem.W.nsIn K mainGlobals "len" = some none)
  (z1:PySem.W.nsIn K mainGlobals "list" = some none)
  (z2:PySem.W.nsIn K mainGlobals "min" = some none)
  (z3:PySem.W.nsIn K mainGlobals "range" = some none)
  (z4:PySem.W.nsIn K mainGlobals "reversed" = some none)
  (z5:PySem.W.nsIn K mainGlobals "sum" = some none)
  (z6:PySem.W.nsIn K mainGlobals "tuple" = some none)
  {t0:Tok} (q0:PySem.W.nsIn K mainGlobals "__name__" = some (some (.str "law_pastways_k74_whole_back_and_twins" t0)))
  : ∃fd:FuncData,(∀(s:Shared) (v:Value),BindsTo s fd ⟨[v],[]⟩ [("_law_script",v)])/\∀base:Heap,K.In base->base.Ns mainGlobals mg->fB l.prog w K mg base lE 60 fa fd ["_law_script"] (oA K prog 100000 60 21):=by
 have e:=Xm.symm.trans (abM X G DB.a);have q:PX=fa:=by injection e with e;injection e with e;exact e.symm
 subst q
 let aa:Nat->Addr:=λk=>[p0,p1,p2,p3,p4,p5,p6,p7,p8,p9,SG,SH,SI,SJ,SK,SM,SN,SO,SQ,SS,SV,PX,Tf,Tg,Ti,Tj,To,Tp,Tt,Tu,Tv,Tw].getD k p0
 let dd:Nat->FuncData:=λk=>[d0,d1,d2,d3,d4,d5,d6,d7,d8,d9,SW,SX,SY,S5,S6,S7,S8,S9,Tc,Td,Te,PY,Tz,TF,TH,TJ,TL,TM,TN,TQ,TR,TU].getD k d0
 have T:Top l.prog w K mg (tb aa dd):=by
  refine⟨λf i b=>(show ∀i∈(tb aa dd).fi,mg i.name=some (.ref i.addr)/\PySem.W.keepIn K (.ref i.addr)=true/\Binds K i.fd i.ps []from ?_) i (ZM b),?_,?_,?_,λf i b=>(show ∀i∈(tb aa dd).mi,PySem.W.keepIn K (.ref i.addr)=true/\Binds K i.fd i.ps []from ?_) i (ZM b),λbase=>?_⟩
  .refine List.forall_mem_cons.mpr ⟨F0.t X G (F0.f.binds λ_ _ _ _ _ _ g c=>by obtain⟨_,rfl⟩:=g9 c;rfl),?_⟩;refine List.forall_mem_cons.mpr ⟨F1.t X G (F1.f.binds λ_ _ _ _ _ _ g c=>by obtain⟨_,rfl⟩:=g9 c;rfl),?_⟩;refine List.forall_mem_cons.mpr ⟨F2.t X G (F2.f.binds λ_ _ _ _ _ _ g c=>by obtain⟨_,rfl⟩:=g9 c;rfl),?_⟩;refine List.forall_mem_cons.mpr ⟨F3.t X G (F3.f.binds λ_ _ _ _ _ _ g c=>by obtain⟨_,rfl⟩:=g9 c;rfl),?_⟩;refine List.forall_mem_cons.mpr ⟨F4.t X G (F4.f.binds λ_ _ _ _ _ _ g c=>by obtain⟨_,rfl⟩:=g9 c;rfl),?_⟩;refine List.forall_mem_cons.mpr ⟨F5.t X G (F5.f.binds λ_ _ _ _ _ _ g c=>by obtain⟨_,_,_,rfl⟩:=kH c;rfl),?_⟩;refine List.forall_mem_cons.mpr ⟨F6.t X G (F6.f.binds λ_ _ _ _ _ _ g c=>by obtain⟨_,_,rfl⟩:=lu c;rfl),?_⟩;refine List.forall_mem_cons.mpr ⟨F7.t X G (F7.f.binds λ_ _ _ _ _ _ g c=>by obtain⟨_,_,rfl⟩:=lu c;rfl),?_⟩;refine List.forall_mem_cons.mpr ⟨F8.t X G (F8.f.binds λ_ _ _ _ _ _ g c=>by obtain⟨_,_,rfl⟩:=lu c;rfl),?_⟩;refine List.forall_mem_cons.mpr ⟨F9.t X G (F9.f.binds λ_ _ _ _ _ _ g c=>by obtain⟨_,_,rfl⟩:=lu c;rfl),?_⟩;refine List.forall_mem_cons.mpr ⟨PZ.t X G (PZ.f.binds λ_ _ _ _ _ _ g c=>by obtain⟨_,_,rfl⟩:=lu c;rfl),?_⟩;refine List.forall_mem_cons.mpr ⟨P0.t X G (P0.f.binds λ_ _ _ _ _ _ g c=>by obtain⟨_,_,rfl⟩:=lu c;rfl),?_⟩;refine List.forall_mem_cons.mpr ⟨P1.t X G (P1.f.binds λ_ _ _ _ _ _ g c=>by obtain⟨_,rfl⟩:=g9 c;rfl),?_⟩;refine List.forall_mem_cons.mpr ⟨P4.t X G (P4.f.binds λ_ _ _ _ _ _ g c=>by obtain⟨_,_,rfl⟩:=lu c;rfl),?_⟩;refine List.forall_mem_cons.mpr ⟨P5.t X G (P5.f.binds λ_ _ _ _ _ _ g c=>by obtain⟨_,_,_,rfl⟩:=kH c;rfl),?_⟩;refine List.forall_mem_cons.mpr ⟨P6.t X G (P6.f.binds λ_ _ _ _ _ _ g c=>by obtain⟨_,_,_,rfl⟩:=kH c;rfl),?_⟩;refine List.forall_mem_cons.mpr ⟨P7.t X G (P7.f.binds λ_ _ _ _ _ _ g c=>by obtain⟨_,_,_,rfl⟩:=kH c;rfl),?_⟩;refine List.forall_mem_cons.mpr ⟨P8.t X G (P8.f.binds λ_ _ _ _ _ _ g c=>by obtain⟨_,_,_,rfl⟩:=kH c;rfl),?_⟩;refine List.forall_mem_cons.mpr ⟨P9.t X G (P9.f.binds λ_ _ _ _ _ _ g c=>by obtain⟨_,_,_,rfl⟩:=kH c;rfl),?_⟩;refine List.forall_mem_cons.mpr ⟨Qa.t X G (Qa.f.binds λ_ _ _ _ _ _ g c=>by obtain⟨_,_,rfl⟩:=lu c;rfl),?_⟩;refine List.forall_mem_cons.mpr ⟨Qc.t X G (Qc.f.binds λ_ _ _ _ _ _ g c=>by obtain⟨_,_,rfl⟩:=lu c;rfl),?_⟩;refine List.forall_mem_cons.mpr ⟨DB.t X G (DB.f.binds λ_ _ _ _ _ _ g c=>by obtain⟨_,rfl⟩:=g9 c;rfl),?_⟩;exact λ_ h=>nomatch h
  .exact(show ∀x∈sC,mg x=none from List.forall_mem_cons.mpr ⟨aaB X G z0,List.forall_mem_cons.mpr ⟨aaB X G z1,List.forall_mem_cons.mpr ⟨aaB X G z2,List.forall_mem_cons.mpr ⟨aaB X G z3,List.forall_mem_cons.mpr ⟨aaB X G z4,List.forall_mem_cons.mpr ⟨aaB X G z5,List.forall_mem_cons.mpr ⟨aaB X G z6,λ_ h=>nomatch h⟩⟩⟩⟩⟩⟩⟩)
  .exact λx d p=>(show ∀y∈(tb aa dd).cs,∃v u,mg y.1=some u/\RelV v u/\yw K y.2 v from List.forall_mem_cons.mpr ⟨⟨.str "law_pastways_k74_whole_back_and_twins",_,abM X G q0,⟨_,rfl⟩,λ_ _=>⟨by decide +kernel,by decide⟩⟩,λ_ h=>nomatch h⟩) (x,d) p
  .exact λx d p=>(show ∀y∈(tb aa dd).dk,∃a,mg y.1=some (.ref a)/\∀h:Heap,K.In h->StrTab l.prog w h a (tabOf y.2)from λ_ h=>nomatch h) (x,d) p
  .exact List.forall_mem_cons.mpr ⟨⟨zJ.f.kp,(zJ.f.binds λ_ _ _ _ _ _ g c=>by obtain⟨_,_,_,rfl⟩:=kH c;rfl)⟩,List.forall_mem_cons.mpr ⟨⟨zK.f.kp,(zK.f.binds λ_ _ _ _ _ _ g c=>by obtain⟨_,rfl⟩:=g9 c;rfl)⟩,List.forall_mem_cons.mpr ⟨⟨zL.f.kp,(zL.f.binds λ_ _ _ _ _ _ g c=>by obtain⟨_,_,_,_,rfl⟩:=Vd c;rfl)⟩,List.forall_mem_cons.mpr ⟨⟨zM.f.kp,(zM.f.binds λ_ _ _ _ _ _ g c=>by obtain⟨_,rfl⟩:=g9 c;rfl)⟩,List.forall_mem_cons.mpr ⟨⟨zN.f.kp,(zN.f.binds λ_ _ _ _ _ _ g c=>by obtain⟨_,rfl⟩:=g9 c;rfl)⟩,List.forall_mem_cons.mpr ⟨⟨zO.f.kp,(zO.f.binds λ_ _ _ _ _ _ g c=>by obtain⟨_,rfl⟩:=g9 c;rfl)⟩,List.forall_mem_cons.mpr ⟨⟨zP.f.kp,(zP.f.binds λ_ _ _ _ _ _ g c=>by obtain⟨_,rfl⟩:=g9 c;rfl)⟩,List.forall_mem_cons.mpr ⟨⟨zQ.f.kp,(zQ.f.binds λ_ _ _ _ _ _ g c=>by obtain⟨_,rfl⟩:=g9 c;rfl)⟩,List.forall_mem_cons.mpr ⟨⟨zR.f.kp,(zR.f.binds λ_ _ _ _ _ _ g c=>by obtain⟨_,rfl⟩:=g9 c;rfl)⟩,λ_ h=>nomatch h⟩⟩⟩⟩⟩⟩⟩⟩⟩
  have Qd:PySem.W.nsIn K mainGlobals (ay au.cn)=some (some (.ref jb)):=QZ (by decide +kernel) O0.ns;have TV:∀f∈au.nm,fR K jb (ay f):=List.forall_mem_cons.mpr ⟨AE (by decide +kernel) Ve,List.forall_mem_cons.mpr ⟨AE (by decide +kernel) Vf,List.forall_mem_cons.mpr ⟨AE (by decide +kernel) Vg,λ_ h=>nomatch h⟩⟩⟩;have Xn:D5 l.prog w K mg base (tb aa dd).mi (ju aa dd) jb:=⟨Qd,abM X G Qd,⟨O0.pg,O0.hd,O0.po,O0.sa⟩,TV,(show au.nm.Nodup by decide +kernel),List.forall_mem_cons.mpr ⟨⟨HJ aa dd,rfl,⟨zJ.a,zJ.i,zJ.f.kp⟩,(show("write" : Str)∉au.nm.map ay by decide +kernel)⟩,List.forall_mem_cons.mpr ⟨⟨HK aa dd,rfl,⟨zK.a,zK.i,zK.f.kp⟩,(show("fold" : Str)∉au.nm.map ay by decide +kernel)⟩,List.forall_mem_cons.mpr ⟨⟨HL aa dd,rfl,⟨zL.a,zL.i,zL.f.kp⟩,(show("step" : Str)∉au.nm.map ay by decide +kernel)⟩,List.forall_mem_cons.mpr ⟨⟨HM aa dd,rfl,⟨zM.a,zM.i,zM.f.kp⟩,(show("text" : Str)∉au.nm.map ay by decide +kernel)⟩,List.forall_mem_cons.mpr ⟨⟨HN aa dd,rfl,⟨zN.a,zN.i,zN.f.kp⟩,(show("entries" : Str)∉au.nm.map ay by decide +kernel)⟩,List.forall_mem_cons.mpr ⟨⟨HQ aa dd,rfl,⟨zO.a,zO.i,zO.f.kp⟩,(show("back" : Str)∉au.nm.map ay by decide +kernel)⟩,List.forall_mem_cons.mpr ⟨⟨HS aa dd,rfl,⟨zP.a,zP.i,zP.f.kp⟩,(show("forth" : Str)∉au.nm.map ay by decide +kernel)⟩,List.forall_mem_cons.mpr ⟨⟨HU aa dd,rfl,⟨zQ.a,zQ.i,zQ.f.kp⟩,(show("counts" : Str)∉au.nm.map ay by decide +kernel)⟩,List.forall_mem_cons.mpr ⟨⟨HV aa dd,rfl,⟨zR.a,zR.i,zR.f.kp⟩,(show("twin" : Str)∉au.nm.map ay by decide +kernel)⟩,λ_ h=>nomatch h⟩⟩⟩⟩⟩⟩⟩⟩⟩,⟨O0.Xl,I0.a,I0.i,O0.kc⟩,(I0.f.binds λ_ _ _ _ _ _ g c=>by obtain⟨_,_,rfl⟩:=lu c;rfl),λk=>ML (o:=ju aa dd) I0.f Fq Qd ⟨O0.pg,O0.hd,O0.po,O0.sa⟩ TV (by show 0<2;decide) (by show 3<1000;decide) Fv (Ft) k⟩
  exact List.forall_mem_cons.mpr ⟨⟨jb,Xn⟩,λ_ h=>nomatch h⟩
 refine⟨PY,λs v=>?_,λbase _ _=>?_⟩
 .obtain⟨B,C,kV,r,F,H,z,I,A,e,_⟩:=DB.f.ex;rw[e];exact .of_eq rfl
 refine Cp (P:=l.prog) (w:=w) (base:=base) T (λn A0 f i b=>?_) 60 21 (HH aa dd) rfl
 match f,b with
 |0,b=>obtain rfl:i0 aa dd=i:=Vb b;exact cD (i:=i0 aa dd) T A0 F0.f s0 rfl rfl (@allB.get _ _ _ 0 (f0.body,top 2,n0) dc rfl)
 |1,b=>obtain rfl:i1 aa dd=i:=Vb b;exact cD (i:=i1 aa dd) T A0 F1.f s1 rfl rfl (@allB.get _ _ _ 1 (f1.body,top 3,n1) dc rfl)
 |2,b=>obtain rfl:i2 aa dd=i:=Vb b;exact cD (i:=i2 aa dd) T A0 F2.f s2 rfl rfl (@allB.get _ _ _ 2 (f2.body,top 4,n2) dc rfl)
 |3,b=>obtain rfl:i3 aa dd=i:=Vb b;exact cD (i:=i3 aa dd) T A0 F3.f s3 rfl rfl (@allB.get _ _ _ 3 (f3.body,top 5,n3) dc rfl)
 |4,b=>obtain rfl:i4 aa dd=i:=Vb b;exact cD (i:=i4 aa dd) T A0 F4.f s4 rfl rfl (@allB.get _ _ _ 4 (f4.body,top 6,n4) dc rfl)
 |5,b=>obtain rfl:i5 aa dd=i:=Vb b;exact cD (i:=i5 aa dd) T A0 F5.f s5 rfl rfl (@allB.get _ _ _ 5 (f5.body,top 7,n5) dc rfl)
 |6,b=>obtain rfl:i6 aa dd=i:=Vb b;exact cD (i:=i6 aa dd) T A0 F6.f s6 rfl rfl (@allB.get _ _ _ 6 (f6.body,top 13,n6) dc rfl)
 |7,b=>obtain rfl:i7 aa dd=i:=Vb b;exact cD (i:=i7 aa dd) T A0 F7.f s7 rfl rfl (@allB.get _ _ _ 7 (f7.body,top 14,n7) dc rfl)
 |8,b=>obtain rfl:i8 aa dd=i:=Vb b;exact cD (i:=i8 aa dd) T A0 F8.f s8 rfl rfl (@allB.get _ _ _ 8 (f8.body,top 15,n8) dc rfl)
 |9,b=>obtain rfl:i9 aa dd=i:=Vb b;exact cD (i:=i9 aa dd) T A0 F9.f s9 rfl rfl (@allB.get _ _ _ 9 (f9.body,top 16,n9) dc rfl)
 |10,b=>obtain rfl:Pa aa dd=i:=Vb b;exact cD (i:=Pa aa dd) T A0 PZ.f R0 rfl rfl (@allB.get _ _ _ 10 (B9.body,top 17,Pn) dc rfl)
 |11,b=>obtain rfl:Pb aa dd=i:=Vb b;exact cD (i:=Pb aa dd) T A0 P0.f Gf rfl rfl (@allB.get _ _ _ 11 (ON.body,top 18,Po) dc rfl)
 |12,b=>obtain rfl:i12 aa dd=i:=Vb b;exact cD (i:=i12 aa dd) T A0 P1.f s12 rfl rfl (@allB.get _ _ _ 12 (OO.body,top 20,Pp) dc rfl)
 |13,b=>obtain rfl:Pc aa dd=i:=Vb b;exact cD (i:=Pc aa dd) T A0 P4.f W4 rfl rfl (@allB.get _ _ _ 13 (OP.body,top 24,Pq) dc rfl)
 |14,b=>obtain rfl:Pd aa dd=i:=Vb b;exact cD (i:=Pd aa dd) T A0 P5.f W5 rfl rfl (@allB.get _ _ _ 14 (OQ.body,top 25,Pr) dc rfl)
 |15,b=>obtain rfl:Pe aa dd=i:=Vb b;exact cD (i:=Pe aa dd) T A0 P6.f W6 rfl rfl (@allB.get _ _ _ 15 (OR.body,top 26,Pu) dc rfl)
 |16,b=>obtain rfl:Pf aa dd=i:=Vb b;exact cD (i:=Pf aa dd) T A0 P7.f Px rfl rfl (@allB.get _ _ _ 16 (OS.body,top 27,Pw) dc rfl)
 |17,b=>obtain rfl:Pg aa dd=i:=Vb b;exact cD (i:=Pg aa dd) T A0 P8.f W7 rfl rfl (@allB.get _ _ _ 17 (OU.body,top 28,Py) dc rfl)
 |18,b=>obtain rfl:Ph aa dd=i:=Vb b;exact cD (i:=Ph aa dd) T A0 P9.f W8 rfl rfl (@allB.get _ _ _ 18 (zI.body,top 29,Pz) dc rfl)
 |19,b=>obtain rfl:Pj aa dd=i:=Vb b;exact cD (i:=Pj aa dd) T A0 Qa.f W9 rfl rfl (@allB.get _ _ _ 19 (Dy.body,top 30,PB) dc rfl)
 |20,b=>obtain rfl:Pk aa dd=i:=Vb b;exact cD (i:=Pk aa dd) T A0 Qc.f Xa rfl rfl (@allB.get _ _ _ 20 (Dz.body,top 31,PC) dc rfl)
 |21,b=>obtain rfl:HH aa dd=i:=Vb b;exact cD (i:=HH aa dd) T A0 DB.f Xb rfl rfl (@allB.get _ _ _ 21 (DA.body,top 32,PD) dc rfl)
 |22,b=>obtain rfl:HJ aa dd=i:=Vb b;exact cD (i:=HJ aa dd) T A0 zJ.f Xc rfl rfl (@allB.get _ _ _ 22 (OV.body,cB 22 1,PF) dc rfl)
 |23,b=>obtain rfl:HK aa dd=i:=Vb b;exact cD (i:=HK aa dd) T A0 zK.f Xd rfl rfl (@allB.get _ _ _ 23 (OW.body,cB 22 2,PJ) dc rfl)
 |24,b=>obtain rfl:HL aa dd=i:=Vb b;exact cD (i:=HL aa dd) T A0 zL.f Xe rfl rfl (@allB.get _ _ _ 24 (OY.body,cB 22 3,PK) dc rfl)
 |25,b=>obtain rfl:HM aa dd=i:=Vb b;exact cD (i:=HM aa dd) T A0 zM.f Xf rfl rfl (@allB.get _ _ _ 25 (OZ.body,cB 22 4,PL) dc rfl)
 |26,b=>obtain rfl:HN aa dd=i:=Vb b;exact cD (i:=HN aa dd) T A0 zN.f Xg rfl rfl (@allB.get _ _ _ 26 (O4.body,cB 22 5,PM) dc rfl)
 |27,b=>obtain rfl:HQ aa dd=i:=Vb b;exact cD (i:=HQ aa dd) T A0 zO.f Xh rfl rfl (@allB.get _ _ _ 27 (O5.body,cB 22 7,PN) dc rfl)
 |28,b=>obtain rfl:HS aa dd=i:=Vb b;exact cD (i:=HS aa dd) T A0 zP.f Xi rfl rfl (@allB.get _ _ _ 28 (O6.body,cB 22 8,PR) dc rfl)
 |29,b=>obtain rfl:HU aa dd=i:=Vb b;exact cD (i:=HU aa dd) T A0 zQ.f Xj rfl rfl (@allB.get _ _ _ 29 (O7.body,cB 22 9,PU) dc rfl)
 |30,b=>obtain rfl:HV aa dd=i:=Vb b;exact cD (i:=HV aa dd) T A0 zR.f Xk rfl rfl (@allB.get _ _ _ 30 (O9.body,cB 22 10,PV) dc rfl)
 |j+31,b=>exact nomatch (show(none:Option FI)=some i from b)
end Lw
namespace Lg
open Pv
open Lw (prog zI Dy Dz DA Ht Hu Hw Hz HD HF HG Hv Hx Hy HA HB HC HE Bb Bc Bd xP xQ xR xS xT xU su sy sA)
open Ev (deep big rep cut bE)
structure Gr(t:List Nat)(j:Nat)(rs:List Row)(u:List Nat):Prop where
 ch:Ch t (cH rs)
 tx:fy t (cH rs)=u
 rl:rs.length<=j
 ln:∀r∈rs,r.2.length<=900
 tl:u.length<=27+12*j
 tt:eE (cH rs)<=6*(j*j)+42*j
structure Gs(t:List Nat)(j:Nat)(s:Lp):Prop where
 gr:Gr t j s.2.1 s.2.2
 wd:s.1=[119,114,105,116,101]\/s.1=[102,111,108,100]
def Gr.mono{t:List Nat}{j k:Nat}{rs:List Row}{u:List Nat}(h:Gr t j rs u)(hk:j<=k):Gr t k rs u:=by
 have a:=h.tt;have b:j*j<=k*k:=abo hk hk;exact⟨h.ch,h.tx,Z2 h.rl hk,h.ln,by have:=h.tl;omega,by omega⟩
theorem Gs.mono{t:List Nat}{j k:Nat}{s:Lp}(h:Gs t j s)(hk:j<=k):Gs t k s:=⟨h.gr.mono hk,h.wd⟩
def cur{t:List Nat}{j:Nat}{S:List Lp}(ht:t.length<=5)(h:∀s∈S,Gs t j s):Gr t j (dZ S) (gw t S):=by
 rcases aaS S with rfl|⟨S',s,e⟩
 .exact⟨trivial,rfl,aaz _,λr a=>(List.not_mem_nil a).elim,by show t.length<=_;omega,by simp[eE,cH,dZ]⟩
 .rw[aaT]at e;subst e;rw[Dt,Ds];exact(h s (by simp)).gr
def Gr.rw{t:List Nat}{j:Nat}{rs:List Row}{u:List Nat}(ht:t.length<=5)(hj:j<=9)(h:Gr t j rs u):zF t rs:=by
 have a:=h.tt;have b:j*j<=9*9:=abo hj hj;exact⟨h.ch,h.ln,by omega⟩
section
variable{w n j:Nat}{ns:List Int}{t:List Nat}{S L:List Lp}
def qI(hn:ns.length<=63)(hw:5000<w)(ht:t.length<=5)(hj:j<=8)(G:∀s∈S,Gs t j s)(hS:S.length<=20)(a:Int):∃s,Gs t (j+1) s/\∀L,run prog w (n+10) 18 [.val (dW ns),.val (.int a),.ob aH (lO t S L)]=some (.aV,[lO t (S++[s]) []]):=by
 have C:=cur ht G;have dr:=λ(k:Int) (m:Nat) (hm:0<m) fr=>gj (fr:=fr) (eY (F:=prog) (c:=13) (dr:=14) (w:=w) (n:=n+7) rfl rfl hn k (many:=(m:Int)) (by omega));have K:=C.rl;have M:=C.tl;have P:=C.tt;have Q:j*j<=8*8:=abo hj hj;have W:(j+1)*(j+1)=j*j+2*j+1:=by rw[Nat.mul_add,Nat.add_mul];omega
 have p:=dr a 5 (by decide);by_cases x:cO ns a 5=0
 .obtain⟨q,N⟩:=xG (F:=prog) (aN:=0) (lg:=3) (bU:=5) (cz:=4) (cJ:=1) (dI:=2) (fU:=8) (di:=9) (bR:=10) (cQ:=11) (i:=12) (w:=w) (n:=n) rfl rfl rfl rfl rfl rfl rfl rfl rfl rfl rfl hw (C.rw ht (by omega)) (by omega);have X:=N.ln;have Y:=N.tt;refine⟨([102,111,108,100],dJ t (dZ S),gw t S),⟨⟨N.ch,N.tx.trans C.tx,by simp only;omega,(Nm.rw N (C.rw ht (by omega))).ln,by simp only;omega,by simp only;omega⟩,.inr rfl⟩,λL=>?_⟩;have A:=OM (F:=prog) (iT:=25) (iE:=26) (iS:=24) (iQ:=12) (i:=23) (w:=w) (n:=n+7) (t:=t) (S:=S) (L:=L) rfl rfl rfl rfl q (by omega) (by omega) (by omega);refine xH (fn:=zI) rfl rfl ?_;exact ai (aL (b:=true) (aE rfl (bI (cZ (aX rfl (aB rfl) (aX rfl (aB rfl) (aX rfl (aR rfl) aJ))) (p _)) (aR rfl) qA) (by show decide _=_;exact aae x)) (λ_=>ai (cS (bY (dG (c:=aH) (l:=lO t S L)) (b7 rfl aJ) (dY rfl rfl A rfl)) (az (az ⟨rfl,rfl⟩)))) λh=>absurd h (by decide))
 .have y:=dr (a+1) 4 (by decide);obtain⟨d,B,H⟩:=drawn (ns:=ns) (a+1) 4 (by decide);rw[B]at y;obtain⟨o,ho⟩:∃o:List Nat,eX (.lst [.str [97,110,110],.str [98,111],.str [97,110,110],.str [99]]) (.int (d:Int))=some (.str o):=by
   match d,H with
   |0,_=>exact⟨_,rfl⟩
   |1,_=>exact⟨_,rfl⟩
   |2,_=>exact⟨_,rfl⟩
   |3,_=>exact⟨_,rfl⟩
  obtain⟨c,f,f1,f2,f3,f4⟩:=Dr (F:=prog) (c0:=13) (o6:=14) (o7:=16) (i:=17) (w:=w) (n:=n+2) hn rfl rfl rfl rfl (a+2) (gw t S) (by omega);have f:=λfr=>gj (fr:=fr) f;have g:=jq t (dZ S) (o,c);rw[C.tx]at g;have z:=jH (dZ S) (o,c);simp only at g z;refine⟨([119,114,105,116,101],dZ S++[(o,c)],aO c (gw t S)),⟨⟨pS.mpr ⟨C.ch,by rw[C.tx];exact f1⟩,g,by simp;omega,λr e=>?_,by simp only;omega,by simp only;rw[z];omega⟩,.inl rfl⟩,λL=>?_⟩
  .rcases List.mem_append.mp e with e|e
   .exact C.ln r e
   .rw[Z8]at e;subst e;simp only;omega
  have I:=o8 (F:=prog) (i:=25) (w:=w) (n:=n+8) (t:=t) (S:=S) (L:=L) rfl;have J:=Kp (F:=prog) (iT:=25) (iE:=26) (iS:=24) (aN:=0) (mX:=6) (iD:=7) (i:=22) (w:=w) (n:=n+5) (t:=t) (S:=S) (L:=L) rfl rfl rfl rfl rfl rfl rfl (o:=o) f1 (by omega) (by omega) (by omega) (by omega) (by omega);refine xH (fn:=zI) rfl rfl ?_;refine ai (aL (b:=false) (aE rfl (bI (cZ (aX rfl (aB rfl) (aX rfl (aB rfl) (aX rfl (aR rfl) aJ))) (p _)) (aR rfl) qA) (by show decide _=_;exact Z6 x)) (zb ·) λ_=>?_);refine ai (bD (dN (jz (av (aR rfl) (av (aR rfl) (av (aR rfl) (av (aR rfl) aD)))) (gT (cL (by simp)))) (cZ (aX rfl (aB rfl) (aX rfl (aU (aB rfl) (aR rfl) cj) (aX rfl (aR rfl) aJ))) (y _)) ho) rfl rfl ?_);exact ai (cS (bY (dG (c:=aH) (l:=lO t S L)) (b7 rfl (aX rfl (aB rfl) (aX rfl (cZ (aX rfl (aB rfl) (aX rfl (aU (aB rfl) (aR rfl) cj) (aX rfl (bY (dG (c:=aH) (l:=lO t S L)) (b7 rfl aJ) (dY rfl rfl I rfl)) aJ))) (f _)) aJ))) (W0 rfl rfl J rfl)) (az (az ⟨rfl,rfl⟩)))
def Qe(hn:ns.length<=63)(hw:5000<w)(ht:t.length<=5)(hj:j<=7)(G:∀s∈S,Gs t j s)(hS:S.length<=10):∃T,T.length=S.length+2/\(∀s∈T,Gs t (j+2) s)/\run prog w (n+11) 19 [.val (dW ns),.ob aH (lO t S L)]=some (.tup [.lst ((dZ T).map bW),.str (gw t T),.tup [.int ((S.length+2:Nat):Int),.int (0:Nat)]],[lO t T []]):=by
 obtain⟨s1,G1,g⟩:=qI (w:=w) (n:=n) hn hw ht (j:=j) (by omega) G (by omega) (700+70*(0+(0:Nat)));have G2:∀s∈S++[s1],Gs t (j+1) s:=λs b=>by
  rcases List.mem_append.mp b with b|b
  .exact(G s b).mono (by omega)
  .rw[Z8]at b;subst b;exact G1
 obtain⟨s2,G3,h⟩:=qI (w:=w) (n:=n) hn hw ht (j:=j+1) (S:=S++[s1]) (by omega) G2 (by simp;omega) (700+70*(0+(1:Nat)));have G4:∀s∈S++[s1]++[s2],Gs t (j+2) s:=λs b=>by
  rcases List.mem_append.mp b with b|b
  .exact(G2 s b).mono (by omega)
  .rw[Z8]at b;subst b;exact G3
 have C:=cur ht G4;have y:=C.rl;have e:=mZ (F:=prog) (i:=26) (w:=w) (n:=n+9) (t:=t) (S:=S++[s1]++[s2]) (L:=[]) rfl (by omega);have x:=o8 (F:=prog) (i:=25) (w:=w) (n:=n+9) (t:=t) (S:=S++[s1]++[s2]) (L:=[]) rfl;have k:=xO (F:=prog) (i:=29) (w:=w) (n:=n+9) (t:=t) (S:=S++[s1]++[s2]) (L:=[]) rfl;have p:(S++[s1]++[s2]).length=S.length+2:=by simp
 rw[p]at k;refine⟨S++[s1]++[s2],p,G4,?_⟩;replace g:=g L;replace h:=h [];generalize dZ (S++[s1]++[s2])=E at *
 generalize gw t (S++[s1]++[s2])=X at *
 generalize lO t S L=O0 at *
 generalize lO t (S++[s1]) []=O1 at *
 generalize lO t (S++[s1]++[s2]) []=O2 at *
 refine bX (fn:=Dy) rfl rfl ?_;refine ai (gY (vs:=range 0 2) (iU (av (aR rfl) aD) rfl) ?_);refine jh (lo:=0) (N:=2) (λk o=>∃a,vo a/\o=[some (.val (dW ns)),some (.ob aH (if k=0 then O0 else if k=1 then O1 else O2)),a]) (λk o q ⟨a,f,d⟩=>?_) (λo ⟨a,f,d⟩=>?_) ⟨none,.none,rfl⟩
 .subst d
  match k,q with
  |0,_=>
   refine dh (bind1 rfl f) (ai (cS (cZ (aX rfl (aB rfl) (aX rfl (aU (aR rfl) (aU (aR rfl) (aB rfl) (jV (A7 _))) cj) (b7 rfl aJ))) (Ff rfl rfl g rfl)) (az ?_)));rw[dB];exact⟨_,.val,rfl⟩
  |1,_=>
   refine dh (bind1 rfl f) (ai (cS (cZ (aX rfl (aB rfl) (aX rfl (aU (aR rfl) (aU (aR rfl) (aB rfl) (jV (A7 _))) cj) (b7 rfl aJ))) (Ff rfl rfl h rfl)) (az ?_)));rw[dB];exact⟨_,.val,rfl⟩
 .subst d;refine ai (bN (af:=[some (.val (dW ns)),some (.ob aH O2),a]) ?_ ⟨rfl,rfl⟩);have r:gh [some (.val (dW ns)),some (.ob aH (if 2=0 then O0 else if 2=1 then O1 else O2)),a]=[some (.val (dW ns)),some (.ob aH O2),a]:=by
   show [_,_,a.map Sl.eZ]=_;rw[dR f];rfl
  rw[r];exact cY (av (bY (dG (c:=aH) (l:=O2)) (b7 rfl aJ) (dY rfl rfl e rfl)) (av (bY (dG (c:=aH) (l:=O2)) (b7 rfl aJ) (dY rfl rfl x rfl)) (av (bY (dG (c:=aH) (l:=O2)) (b7 rfl aJ) (dY rfl rfl k rfl)) aD))) rF
end
def Kr{f:V->Fr->R Fl}{Q:Fl->Fr->Prop}{hi:Int}{N:Nat}(I:Nat->Fr->Prop)(turn:∀(k:Nat) fr,k<N->I k fr->Wp (f (.int (hi - (k:Nat))) fr) (fl (I (k+1)) (Q .nx) λv=>Q (.ret v)))(fin:∀fr,I N fr->Q .nx fr){fr:Fr}(i:I 0 fr):Wp (forL f (eL hi N) fr) Q:=by
 have h:=iA (e:=λ(k:Nat)=>V.int (hi - k)) (f:=f) (Q:=Q) (λp l fr=>∃k,k<=N/\p=List.range k/\p++l=List.range N/\I k fr)
  (λp a l fr ⟨k,j,d,c,q⟩=>by
   subst d;have b:=Z0 List.length c;simp at b;have o:a=k:=by
    have:=Z0 (·[k]?) c;simp[Z5]at this;rw[aaq (by omega)]at this;simpa using this
   subst o;refine(turn a fr (by omega) q).mono λg r z=>?_;cases g with
   |nx=>exact⟨a+1,by omega,by simp[aat],by simpa using c,z⟩
   |ct=>exact⟨a+1,by omega,by simp[aat],by simpa using c,z⟩
   |bk=>exact z
   |ret x=>exact z)
  (λp fr ⟨k,j,d,c,q⟩=>by
   subst d;have b:=Z0 List.length c;simp at b;subst b;exact fin fr q) (List.range N) [] fr ⟨0,aaz _,rfl,by simp,i⟩
 exact h
def Vh{N:Nat}(h:N<=100000):dw [.int ((N:Int) - 1),.int (-1),.int (-1)]=some (eL ((N:Int) - 1) N):=by
 simp only[dw];rw[xC ⟨trivial,by omega,by omega,by omega,by omega⟩,show((N:Int) - 1 - -1).toNat=N by omega]
def DC(a b:Int):Pv.cop .ne (.tup [.int a,.int b]) (.tup [.int a,.int b])=some false:=by
 rw[oS,tE,dM,dM,j7,kN,kN];simp
def Vi{a b c d:Int}(h1:a=c)(h2:b=d):Pv.cop .ne (.tup [.int a,.int b]) (.tup [.int c,.int d])=some false:=by rw[h1,h2];exact DC c d
def Fw(n:Nat)(a b:Row):cW (n+4) (bW a) (bW b)=some (decide (a=b)):=by
 have h:cW (n+3) (bf a.2) (bf b.2)=some (decide (a.2=b.2)):=j8 (f:=cW (n+2)) (g:=Pt.v) (CW n) a.2 b.2;show cG (cW (n+3)) [.str a.1,bf a.2] [.str b.1,bf b.2]=_;rw[dM,dM,j7,h,rJ];obtain⟨c,d⟩:=a;obtain⟨e,i⟩:=b;by_cases j:c=e<;>by_cases k:d=i<;>simp[j,k]
noncomputable def DE(K:List Row)(x:List Nat)(a b:Int):V:=.tup [.lst (K.map bW),.str x,.tup [.int a,.int b]]
def TZ(K:List Row)(x:List Nat)(a b:Int):Pv.cop .ne (DE K x a b) (DE K x a b)=some false:=by
 unfold DE;rw[oS,tE,dM,dM,dM,j7,NO,j8 (Fw 14),rJ,NN,dM,dM,j7,kN,kN];simp
noncomputable def ld(t:List Nat)(S:List Lp)(k:Nat):List V:=lO t (S.take k) (S.drop k).reverse
noncomputable def wk(S:List Lp)(k:Nat):List Nat:=match S[k]? with
 |some s=>s.1
 |none=>[]
noncomputable def rV(S:List Lp)(k:Nat):V:=.lst ((dZ (S.take k)).map bW)
noncomputable def cg(S:List Lp):List V:=(List.range (S.length+1)).map (rV S)
def DF(t:List Nat)(S:List Lp):ld t S S.length=lO t S []:=by unfold ld;simp
def Ks{t:List Nat}{S:List Lp}{k:Nat}(h:k=S.length):ld t S k=lO t S []:=by rw[h,DF]
section
variable{w n k:Nat}{t:List Nat}{S:List Lp}
def tU(hk:k<S.length)(hS:S.length<=900):run prog w (n+1) 27 [.ob aH (ld t S (k+1))]=some (.str (wk S k),[ld t S k]):=by
 have a:S.take (k+1)=S.take k++[S[k]]:=(ab3 hk).symm;have b:S.drop k=S[k] :: S.drop (k+1):=aaE hk;have c:wk S k=S[k].1:=by unfold wk;rw[Rx hk]
 have:=OL (F:=prog) (p:=3) (i:=27) (w:=w) (n:=n) (t:=t) (S:=S.take k) (L:=(S.drop (k+1)).reverse) (s:=S[k]) rfl (by simp;omega);unfold ld;rw[a,b,Z3,c];exact this
def xW(hk:k<S.length)(hS:S.length<=900):run prog w (n+1) 28 [.ob aH (ld t S k)]=some (.str (wk S k),[ld t S (k+1)]):=by
 have a:S.take (k+1)=S.take k++[S[k]]:=(ab3 hk).symm;have b:S.drop k=S[k] :: S.drop (k+1):=aaE hk;have c:wk S k=S[k].1:=by unfold wk;rw[Rx hk]
 have:=Ko (F:=prog) (p:=3) (i:=28) (w:=w) (n:=n) (t:=t) (S:=S.take k) (L:=(S.drop (k+1)).reverse) (s:=S[k]) rfl (by simp;omega);unfold ld;rw[a,b,Z3,c];exact this
def jI(hk:k<=S.length):run prog w (n+1) 29 [.ob aH (ld t S k)]=some (.tup [.int (k:Nat),.int ((S.length - k:Nat):Int)],[ld t S k]):=by
 have:=xO (F:=prog) (i:=29) (w:=w) (n:=n) (t:=t) (S:=S.take k) (L:=(S.drop k).reverse) rfl;rw[aaZ,abf hk,acB,abb]at this;exact this
def ku{j:Nat}(hj:j<=9)(ht:t.length<=5)(G:∀s∈S,Gs t j s):run prog w (n+1) 26 [.ob aH (ld t S k)]=some (rV S k,[ld t S k]):=by
 have c:=(cur ht (S:=S.take k) λs a=>G s (acs a)).rl;exact mZ (F:=prog) (i:=26) (w:=w) (n:=n) (t:=t) (S:=S.take k) (L:=(S.drop k).reverse) rfl (by omega)
def Ku:run prog w (n+1) 25 [.ob aH (ld t S k)]=some (.str (gw t (S.take k)),[ld t S k]):=o8 (F:=prog) (i:=25) (w:=w) (n:=n) (t:=t) (S:=S.take k) (L:=(S.drop k).reverse) rfl
def Bg(hk:k<=S.length):eX (.lst (cg S)) (.int (k:Int))=some (rV S k):=by
 show bE (cg S) (k:Int)=_;rw[o9];unfold cg;rw[Z7,aaq (by omega)];rfl
def HW:Pv.cop .ne (rV S k) (rV S k)=some false:=nR _
def RB{j:Nat}(G:∀s∈S,Gs t j s)(hk:k<S.length):wk S k=[119,114,105,116,101]\/wk S k=[102,111,108,100]:=by
 unfold wk;rw[Rx hk];exact(G _ (List.getElem_mem hk)).wd
def none_of{α:Type}{f:V->Option (Option V)}(e:α->V)(l:List α)(h:∀a∈l,f (e a)=some none):cX f (l.map e)=some []:=by
 have:=oU (f:=f) e (λ_=>false) (λ_=>V.aV) l λa b=>by rw[h a b];rfl
 rw[this];simp
noncomputable def WD(S:List Lp)(k:Nat):List V:=(List.range k).map λi=>V.str (wk S (S.length - 1 - i))
def Vj:WD S k++[.str (wk S (S.length - 1 - k))]=WD S (k+1):=by unfold WD;rw[aat,ZZ];rfl
noncomputable def gF(t:List Nat)(S:List Lp)(k m:Nat)(x:Option Sl):Fr:=[some (.ob aH (ld t S k)),some (.bor (cg S)),some (.val (.int (S.length:Nat))),some (.own (WD S m)),x,none]
def Fx{j:Nat}(hj:j<=9)(ht:t.length<=5)(G:∀s∈S,Gs t j s)(hS:S.length<=20):run prog w (n+2) 20 [.ob aH (ld t S S.length),.bor (cg S)]=some (.bl true,[ld t S S.length,cg S]):=by
 have r:dS .len [.lst (cg S)]=some (.int ((S.length+1:Nat):Int)):=by rw[pM];unfold cg;simp
 have s1:Pv.bP .sub (.int ((S.length+1:Nat):Int)) (.int 1)=some (.int (S.length:Nat)):=by rw[jf];congr 2;omega
 refine bX (fn:=Dz) rfl rfl ?_;refine ai (bD (aU (gM (av (aB rfl) aD) r) (aR rfl) s1) rfl rfl ?_);refine ai (iV (l:=[]) (jz aD lQ) rfl rfl ?_);refine ai (gY (vs:=eL ((S.length:Int) - 1) S.length) (af:=gF t S S.length 0 none) (iU (av (aU (aB rfl) (aR rfl) jf) (av (jA (aR rfl)) (av (jA (aR rfl)) aD))) (Vh (by omega))) ?_);refine Kr (λk f=>∃x,vo x/\f=gF t S (S.length - k) k x) (λk f o ⟨x,g,d⟩=>?_) (λf ⟨x,g,d⟩=>?_) ⟨none,.none,rfl⟩
 .subst d;obtain⟨m,hm⟩:∃m,S.length - k=m+1:=⟨S.length - k - 1,by omega⟩
  have q:((S.length:Int) - 1 - (k:Nat))=((m:Nat):Int):=by omega
  have b:=tU (w:=w) (n:=n) (t:=t) (S:=S) (k:=m) (by omega) (by omega);have e:=ku (w:=w) (n:=n) (t:=t) (S:=S) (k:=m) hj ht G;have c:=jI (w:=w) (n:=n) (t:=t) (S:=S) (k:=m) (by omega);have i:=Bg (S:=S) (k:=m) (by omega);have p:=xE (a:=S.length) (b:=m) (by omega);have W:=Vj (S:=S) (k:=k);have y:S.length - (k+1)=m:=by omega
  have z:S.length - 1 - k=m:=by omega
  have A:(WD S k).length<100000:=by unfold WD;simp;omega
  rw[q,hm,y];rw[z]at W;refine dh (af:=gF t S (m+1) k (some (.val (.int (m:Nat))))) (bind1 rfl g) ?_;refine ai (cS (af:=gF t S m (k+1) (some (.val (.int (m:Nat))))) (rP rfl rfl (av (bY (dG (c:=aH) (l:=ld t S (m+1))) (b7 rfl aJ) (dY (ao:=gF t S m k (some (.val (.int (m:Nat))))) rfl rfl b rfl)) aD) ((j9 A).trans (by rw[W];rfl))) ?_);refine ai (aL (b:=false) (iR (aE rfl (bI (bY (dG (c:=aH) (l:=ld t S m)) (b7 rfl aJ) (dY (ao:=gF t S m (k+1) (some (.val (.int (m:Nat))))) rfl rfl e rfl)) (dN (aB rfl) (aB rfl) i) HW) rfl) (aE rfl (bI (bY (dG (c:=aH) (l:=ld t S m)) (b7 rfl aJ) (dY (ao:=gF t S m (k+1) (some (.val (.int (m:Nat))))) rfl rfl c rfl)) (cY (av (aB rfl) (av (aU (aB rfl) (aB rfl) p) aD)) gi) (DC _ _)) rfl)) (zb ·) λ_=>az (az ?_));rw[dB];exact⟨_,.val,rfl⟩
 .subst d;rw[abV];refine ai (gY (vs:=range 1 S.length) (af:=gF t S 0 S.length x) (iU (av (aR rfl) (av (aU (aB rfl) (aR rfl) cj) aD)) (Rq (by omega) (by omega) (by omega) (by omega))) ?_);refine jh (lo:=1) (N:=S.length) (λk f=>∃x,vo x/\f=gF t S k S.length x) (λk f o ⟨x,g,d⟩=>?_) (λf ⟨x,g,d⟩=>?_) ⟨x,g,rfl⟩
  .subst d;have q:((1:Int)+(k:Nat))=((k+1:Nat):Int):=by omega
   have b:=xW (w:=w) (n:=n) (t:=t) (S:=S) (k:=k) o (by omega);have e:=ku (w:=w) (n:=n) (t:=t) (S:=S) (k:=k+1) hj ht G;have c:=jI (w:=w) (n:=n) (t:=t) (S:=S) (k:=k+1) o;have i:=Bg (S:=S) (k:=k+1) o;have p:=xE (a:=S.length) (b:=k+1) o;have iw:eX (.lst (WD S S.length)) (.int ((S.length - (k+1):Nat):Int))=some (.str (wk S k)):=by
    show bE (WD S S.length) _=_;rw[o9];unfold WD;rw[Z7,aaq (by omega)];show some (V.str (wk S (S.length - 1 - (S.length - (k+1)))))=_;rw[show S.length - 1 - (S.length - (k+1))=k by omega]
   have B:Pv.cop .ne (.str (wk S k)) (.str (wk S k))=some false:=by rw[gE];simp
   rw[q];refine dh (af:=gF t S k S.length (some (.val (.int ((k+1:Nat):Int))))) (bind1 rfl g) ?_;refine ai (aL (b:=false) (af:=gF t S (k+1) S.length (some (.val (.int ((k+1:Nat):Int))))) (iR (af:=gF t S (k+1) S.length (some (.val (.int ((k+1:Nat):Int))))) (aE rfl (bI (bY (dG (c:=aH) (l:=ld t S k)) (b7 rfl aJ) (dY (ao:=gF t S (k+1) S.length (some (.val (.int ((k+1:Nat):Int))))) rfl rfl b rfl)) (dN (aB rfl) (aU (aB rfl) (aB rfl) p) iw) B) rfl) (aE rfl (bI (bY (dG (c:=aH) (l:=ld t S (k+1))) (b7 rfl aJ) (dY (ao:=gF t S (k+1) S.length (some (.val (.int ((k+1:Nat):Int))))) rfl rfl e rfl)) (dN (aB rfl) (aB rfl) i) HW) rfl)) (zb ·) λ_=>az ?_);refine ai (aL (b:=false) (aE rfl (bI (bY (dG (c:=aH) (l:=ld t S (k+1))) (b7 rfl aJ) (dY (ao:=gF t S (k+1) S.length (some (.val (.int ((k+1:Nat):Int))))) rfl rfl c rfl)) (cY (av (aB rfl) (av (aU (aB rfl) (aB rfl) p) aD)) gi) (DC _ _)) rfl) (zb ·) λ_=>az (az ?_));rw[dB];exact⟨_,.val,rfl⟩
  .subst d;have C:gh (gF t S S.length S.length x)=[some (.ob aH (ld t S S.length)),some (.bor (cg S)),some (.val (.int (S.length:Nat))),some (.val (.lst (WD S S.length))),x,none]:=by
    show [_,_,_,_,x.map Sl.eZ,_]=_;rw[dR g];rfl
   have F:Pv.cop .eq (.lst []) (.lst [])=some true:=rfl;refine ai (bN (af:=[some (.ob aH (ld t S S.length)),some (.bor (cg S)),some (.val (.int (S.length:Nat))),some (.val (.lst (WD S S.length))),x,none]) ?_ ⟨rfl,rfl⟩);rw[C];refine bI (wL (kR (kg rfl) rfl) rfl (none_of (λi=>V.str (wk S (S.length - 1 - i))) (List.range S.length) λi H=>?_) lQ) (jz aD lQ) F;rw[List.mem_range]at H;have I:Pv.cop .iH (.str (wk S (S.length - 1 - i))) (.tup [.str [119,114,105,116,101],.str [102,111,108,100]])=some false:=by
    rcases RB (k:=S.length - 1 - i) G (by omega)with h|h<;>rw[h]<;>rfl
   exact zq (b:=false) (v:=.aV) (cF:=[]) rfl (aE rfl (bI (aB rfl) (cY (av (aR rfl) (av (aR rfl) aD)) gi) I) rfl) λh=>absurd h (by decide)
end
def Fy{F:List Ev.Fn}{w fd eO DG m:Nat}(h0:F[eO]?=some ⟨0,0,.nil⟩)(h1:F[DG]?=some ⟨0,0,.cons (.exp (.cl eO .nil)) .nil⟩)(h2:F[fd]?=some ⟨0,0,.cons (.exp (.cl DG .nil)) .nil⟩):run F w (m+3) fd []=some (.aV,[]):=by
 have e:=zu (w:=w) (m:=m) h0 h1;rw[gz,h2];have:exs (run F w (m+2)) w (.cons (.exp (.cl DG .nil)) .nil) (dz ⟨0,0,.cons (.exp (.cl DG .nil)) .nil⟩ [])=.ok .nx []:=by
  simp[dz,b8,bh,args,e,back]
 simp only[aaR,Z4,this,outs,List.take_nil,acG]
def Qf(S:List Lp)(s:Lp):cg (S++[s])=cg S++[.lst ((dZ (S++[s])).map bW)]:=by
 unfold cg;rw[show(S++[s]).length+1=(S.length+1)+1 by simp,aat,ZZ]
 congr 1
 .refine acA λk a=>?_;rw[List.mem_range]at a;unfold rV;rw[abG (by omega)]
 .show [rV (S++[s]) (S.length+1)]=_;unfold rV;rw[aaj (by simp)]
noncomputable def aF(ns:List Int)(O R:List V)(x:Option Sl):Fr:=[some (.val (dW ns)),some (.oo aH O),some (.own R),x,none,none,none,none,none,none,none]
noncomputable def bF(ns:List Int)(O R:List V)(x:Option Sl)(N B:Int)(y:Option Sl)(l:List (Option Sl)):Fr:=some (.val (dW ns)) :: some (.oo aH O) :: some (.own R) :: x :: some (.val (.int N)) :: some (.val (.int B)) :: y :: l
section
variable{w n:Nat}{ns:List Int}{t:List Nat}{S:List Lp}
def GL(w n:Nat)(ss:Ev.Ss)(fr:Fr):Prop:=Wp (exs (run prog w (n+11)) w ss fr) λg fr=>g=.ret (.bl true)/\outs 1 fr=[]
def Xo{ns:List Int}{O R T3:List V}{x y:Option Sl}{N B:Int}{a b:V}{O8:List V}(hx:vo x)(hy:vo y):gh (bF ns O R x N B y [some (.val a),some (.oo aH O8),some (.oo aH T3),some (.val b)])=[some (.val (dW ns)),some (.oo aH O),some (.val (.lst R)),x,some (.val (.int N)),some (.val (.int B)),y,some (.val a),some (.oo aH O8),some (.oo aH T3),some (.val b)]:=by
 show [_,_,_,x.map Sl.eZ,_,_,y.map Sl.eZ,_,_,_,_]=_;rw[dR hx,dR hy];rfl
def Kv(ht:t.length<=5){T:List Lp}{m B:Nat}(hB:m+B=S.length)(hS:S.length<=7)(GS:∀s∈S,Gs t 7 s)(hT:T.length=m+2)(GT:∀s∈T,Gs t 9 s){x y:Option Sl}(hx:vo x)(hy:vo y){a b:V} :
  GL w n (.cons su (.cons sy (.cons sA .nil))) (bF ns (ld t T (m+2)) (cg S) x (S.length:Nat) (B:Nat) y [some (.val a),some (.oo aH (ld t T (m+2))),some (.oo aH (ld t S m)),some (.val b)]):=by
 refine ai (gY (vs:=range 0 B) (iU (av (aB rfl) aD) (wO (by omega) rfl)) ?_);refine jh (lo:=0) (N:=B) (λk e=>∃y,vo y/\e=bF ns (ld t T (m+2)) (cg S) x (S.length:Nat) (B:Nat) y [some (.val a),some (.oo aH (ld t T (m+2))),some (.oo aH (ld t S (m+k))),some (.val b)]) (λk e p ⟨y,hy,d⟩=>?_) (λe ⟨y,hy,d⟩=>?_) ⟨y,hy,rfl⟩
 .subst d;have f:=xW (w:=w) (n:=n+10) (t:=t) (S:=S) (k:=m+k) (by omega) (by omega);generalize ld t T (m+2)=OT at *
  rw[show m+(k+1)=m+k+1 by omega];generalize ld t S (m+k)=O1 at *
  generalize ld t S (m+k+1)=O2 at *
  refine dh (bind1 rfl hy) (ai (cS (bY (gO (c:=aH) (l:=O1)) (b7 rfl aJ) (dY rfl rfl f rfl)) (az ?_)));rw[dB];exact⟨_,.val,rfl⟩
 .subst d;have s1:=xE (a:=S.length) (b:=B) (by omega);rw[show S.length - B=m by omega]at s1;have s2:=OI m 2;refine ai (gY (vs:=range 0 (m+2)) (iU (av (aU (aU (aB rfl) (aB rfl) s1) (aR rfl) s2) aD) (wO (by omega) rfl)) ?_);refine jh (lo:=0) (N:=m+2) (λk e=>∃y,vo y/\e=bF ns (ld t T (m+2 - k)) (cg S) x (S.length:Nat) (B:Nat) y [some (.val a),some (.oo aH (ld t T (m+2 - k))),some (.oo aH (ld t S (m+B))),some (.val b)]) (λk e p ⟨y,hy,d⟩=>?_) (λe ⟨y,hy,d⟩=>?_) ⟨y,hy,rfl⟩
  .subst d;obtain⟨q,hq⟩:∃q,m+2 - k=q+1:=⟨m+2 - k - 1,by omega⟩
   have r:m+2 - (k+1)=q:=by omega
   rw[hq,r];have i:=tU (w:=w) (n:=n+10) (t:=t) (S:=T) (k:=q) (by omega) (by omega);have g:=ku (w:=w) (n:=n+10) (t:=t) (S:=T) (k:=q) (j:=9) (by omega) ht GT;have z:Pv.cop .ne (.str (wk T q)) (.str (wk T q))=some false:=by rw[gE];simp
   have A:=HW (S:=T) (k:=q);generalize ld t T (q+1)=O1 at *
   generalize ld t T q=O2 at *
   generalize ld t S (m+B)=O3 at *
   generalize rV T q=E at *
   have tb:cI (.one 6) (.int (0+(k:Nat))) (bF ns O1 (cg S) x (S.length:Nat) (B:Nat) y [some (.val a),some (.oo aH O1),some (.oo aH O3),some (.val b)])=some (bF ns O1 (cg S) x (S.length:Nat) (B:Nat) (some (.val (.int (0+(k:Nat))))) [some (.val a),some (.oo aH O1),some (.oo aH O3),some (.val b)]):=bind1 rfl hy;refine dh tb ?_;refine ai (aL (b:=false) (af:=bF ns O2 (cg S) x (S.length:Nat) (B:Nat) (some (.val (.int (0+(k:Nat))))) [some (.val a),some (.oo aH O2),some (.oo aH O3),some (.val b)]) (iR (af:=bF ns O2 (cg S) x (S.length:Nat) (B:Nat) (some (.val (.int (0+(k:Nat))))) [some (.val a),some (.oo aH O2),some (.oo aH O3),some (.val b)]) (aE rfl (bI (bY (gO (c:=aH) (l:=O1)) (b7 rfl aJ) (dY (ao:=bF ns O1 (cg S) x (S.length:Nat) (B:Nat) (some (.val (.int (0+(k:Nat))))) [some (.val a),some (.oo aH O2),some (.oo aH O3),some (.val b)]) rfl rfl i rfl)) (bY (gO (c:=aH) (l:=O1)) (b7 rfl aJ) (dY rfl rfl i rfl)) z) rfl) (aE rfl (bI (bY (gO (c:=aH) (l:=O2)) (b7 rfl aJ) (dY (ao:=bF ns O2 (cg S) x (S.length:Nat) (B:Nat) (some (.val (.int (0+(k:Nat))))) [some (.val a),some (.oo aH O2),some (.oo aH O3),some (.val b)]) rfl rfl g rfl)) (bY (gO (c:=aH) (l:=O2)) (b7 rfl aJ) (dY rfl rfl g rfl)) A) rfl)) (zb ·) λ_=>az (az ?_));rw[dB];exact⟨_,.val,rfl⟩
  .subst d;rw[abV,hB];have g:=ku (w:=w) (n:=n+10) (t:=t) (S:=S) (k:=S.length) (j:=7) (by omega) ht GS;have C:=ku (w:=w) (n:=n+10) (t:=t) (S:=T) (k:=0) (j:=9) (by omega) ht GT;have o:=jI (w:=w) (n:=n+10) (t:=t) (S:=S) (k:=S.length) (ZO _);rw[abV]at o;have F:eX (.lst (cg S)) (.int (-1))=some (rV S S.length):=by
    show bE (cg S) (-1)=_;rw[rM];unfold cg;rw[aat];simp
   have G:Pv.cop .eq (rV S S.length) (rV S S.length)=some true:=by
    show cW deep (.lst _) (.lst _)=_;rw[zf,j8 zH];simp
   have H:Pv.cop .eq (rV T 0) (.lst [])=some true:=rfl;have I:Pv.cop .eq (.tup [.int (S.length:Nat),.int ((0:Nat):Int)]) (.tup [.int (S.length:Nat),.int 0])=some true:=by
    show cW deep _ _=_;rw[tE,dM,dM,j7,kN,kN];simp
   generalize ld t T 0=O2 at *
   generalize ld t S S.length=O3 at *
   generalize rV T 0=E at *
   refine ai (bN (af:=[some (.val (dW ns)),some (.oo aH O2),some (.val (.lst (cg S))),x,some (.val (.int (S.length:Nat))),some (.val (.int (B:Nat))),y,some (.val a),some (.oo aH O2),some (.oo aH O3),some (.val b)]) ?_ ⟨rfl,rfl⟩);rw[Xo hx hy];exact GU (bI (bY (gO (c:=aH) (l:=O3)) (b7 rfl aJ) (dY (ao:=[some (.val (dW ns)),some (.oo aH O2),some (.val (.lst (cg S))),x,some (.val (.int (S.length:Nat))),some (.val (.int (B:Nat))),y,some (.val a),some (.oo aH O2),some (.oo aH O3),some (.val b)]) rfl rfl g rfl)) (dN (aB rfl) (jA (aR rfl)) F) G) (GU (bI (bY (gO (c:=aH) (l:=O2)) (b7 rfl aJ) (dY (ao:=[some (.val (dW ns)),some (.oo aH O2),some (.val (.lst (cg S))),x,some (.val (.int (S.length:Nat))),some (.val (.int (B:Nat))),y,some (.val a),some (.oo aH O2),some (.oo aH O3),some (.val b)]) rfl rfl C rfl)) (jz aD lQ) H) (bI (bY (gO (c:=aH) (l:=O3)) (b7 rfl aJ) (dY rfl rfl o rfl)) (cY (av (aB rfl) (av (aR rfl) aD)) gi) I))
noncomputable def Px:Ev.Ss:=.cons su (.cons sy (.cons sA .nil))
noncomputable def s7:Ev.Ss:=.cons Bb (.cons Bc (.cons Bd (.cons xP (.cons xQ (.cons xR (.cons xS (.cons xT (.cons xU Px))))))))
def Kw(hn:ns.length<=63)(hw:5000<w)(ht:t.length<=5){m B:Nat}(hB:m+B=S.length)(hS:S.length<=7)(GS:∀s∈S,Gs t 7 s){x y:Option Sl}(hx:vo x)(hy:vo y) :
  GL w n s7 (bF ns (ld t S m) (cg S) x (S.length:Nat) (B:Nat) y [none,none,none,none]):=by
 have I:(S.take m).length=m:=by simp;omega
 obtain⟨T,g,GT,e⟩:=Qe (w:=w) (n:=n) (L:=(S.drop m).reverse) hn hw ht (j:=7) (by omega) (S:=S.take m) (λs J=>GS s (acs J)) (by omega);rw[I]at g e;have fin:=λ(a b:V)=>Kv (w:=w) (n:=n) (ns:=ns) (a:=a) (b:=b) ht (T:=T) hB hS GS g GT hx hy;rw[Ks g.symm]at fin;have o:=ku (w:=w) (n:=n+10) (t:=t) (S:=S) (k:=m) (j:=7) (by omega) ht GS;have A:=Ku (w:=w) (n:=n+10) (t:=t) (S:=S) (k:=m);have p:=jI (w:=w) (n:=n+10) (t:=t) (S:=S) (k:=m) (by omega);rw[show S.length - m=B by omega]at p;have C:=Fy (F:=prog) (fd:=33) (DG:=32) (eO:=31) (m:=n+8) (w:=w) rfl rfl rfl;have s1:=xE (a:=S.length) (b:=B) (by omega);rw[show S.length - B=m by omega]at s1;have i1:=Bg (S:=S) (k:=m) (by omega);have G:=HW (S:=S) (k:=m);have n3:=TZ (dZ (S.take m)) (gw t (S.take m)) (m:Nat) (B:Nat);have n4:=TZ (dZ T) (gw t T) ((m+2:Nat):Int) ((0:Nat):Int);have n2:=DC ((m+2:Nat):Int) 0;have H:(ld t S m).length=aH.nm.length:=rfl;change run prog w (n+11) 19 [.val (dW ns),.ob aH (ld t S m)]=some (DE (dZ T) (gw t T) ((m+2:Nat):Int) ((0:Nat):Int),[lO t T []])at e;have K:=OI m 2;unfold DE at n3 n4 e;change run prog w (n+10+1) 26 [.ob aH (ld t S m)]=some (.lst ((dZ (S.take m)).map bW),[ld t S m])at o;change eX (.lst (cg S)) (.int (m:Int))=some (.lst ((dZ (S.take m)).map bW))at i1;change Pv.cop .ne (.lst ((dZ (S.take m)).map bW)) (.lst ((dZ (S.take m)).map bW))=some false at G;generalize V.lst ((dZ (S.take m)).map bW)=E at *
 generalize gw t (S.take m)=X at *
 generalize V.lst ((dZ T).map bW)=E2 at *
 generalize gw t T=X2 at *
 generalize ld t S m=O at *
 generalize lO t T []=O2 at *
 refine ai (bD (ao:=bF ns O (cg S) x (S.length:Nat) (B:Nat) y [some (.val (.tup [E,.str X,.tup [.int (m:Nat),.int (B:Nat)]])),none,none,none]) (cY (av (bY (gO (c:=aH) (l:=O)) (b7 rfl aJ) (dY (ao:=bF ns O (cg S) x (S.length:Nat) (B:Nat) y [none,none,none,none]) rfl rfl o rfl)) (av (bY (gO (c:=aH) (l:=O)) (b7 rfl aJ) (dY (ao:=bF ns O (cg S) x (S.length:Nat) (B:Nat) y [none,none,none,none]) rfl rfl A rfl)) (av (bY (gO (c:=aH) (l:=O)) (b7 rfl aJ) (dY (ao:=bF ns O (cg S) x (S.length:Nat) (B:Nat) y [none,none,none,none]) rfl rfl p rfl)) aD))) rF) rfl rfl ?_);refine ai (Oo (l:=O) (ao:=bF ns O (cg S) x (S.length:Nat) (B:Nat) y [some (.val (.tup [E,.str X,.tup [.int (m:Nat),.int (B:Nat)]])),some (.oo aH O),none,none]) Fe C H rfl ?_);refine ai (Oo (l:=O) (ao:=bF ns O (cg S) x (S.length:Nat) (B:Nat) y [some (.val (.tup [E,.str X,.tup [.int (m:Nat),.int (B:Nat)]])),some (.oo aH O),some (.oo aH O),none]) Fe C H rfl ?_);refine ai (aL (b:=false) (iR (aE rfl (bI (dN (aB rfl) (aR rfl) rfl) (dN (aB rfl) (aU (aB rfl) (aB rfl) s1) i1) G) rfl) (aE rfl (bI (dN (aB rfl) (aR rfl) rfl) (cY (av (aU (aB rfl) (aB rfl) s1) (av (aB rfl) aD)) gi) (DC _ _)) rfl)) (zb ·) λ_=>az ?_);refine ai (bD (ao:=bF ns O2 (cg S) x (S.length:Nat) (B:Nat) y [some (.val (.tup [E,.str X,.tup [.int (m:Nat),.int (B:Nat)]])),some (.oo aH O),some (.oo aH O),some (.val (.tup [E2,.str X2,.tup [.int ((m+2:Nat):Int),.int ((0:Nat):Int)]]))]) (cZ (aX rfl (aB rfl) (b7 rfl aJ)) (SE (ao:=bF ns O2 (cg S) x (S.length:Nat) (B:Nat) y [some (.val (.tup [E,.str X,.tup [.int (m:Nat),.int (B:Nat)]])),some (.oo aH O),some (.oo aH O),none]) rfl rfl e rfl)) rfl rfl ?_);refine ai (aL (b:=false) (aE rfl (bI (dN (aB rfl) (aR rfl) rfl) (cY (av (aU (aU (aB rfl) (aB rfl) s1) (aR rfl) K) (av (aR rfl) aD)) gi) n2) rfl) (zb ·) λ_=>az ?_);have T4:∀(d:Fr) (i:Nat) (P:Bool),d[i]?=some (some (.oo aH O))->lN d (.v i)=some i->d.set i (some (.oo aH O))=d->ev (run prog w (n+11)) P (.tup (.cons (.bJ aH 26 (.cons (.v i) .nil)) (.cons (.bJ aH 25 (.cons (.v i) .nil)) (.cons (.bJ aH 29 (.cons (.v i) .nil)) .nil)))) d=.ok (.tup [E,.str X,.tup [.int (m:Nat),.int (B:Nat)]]) d:=λd i P f q r=>
  have z:wo aH d (.cons (.v i) .nil)=true:=by show(ja aH d[i]?).isSome=true;rw[f];exact gO
  cY (av (bY z (b7 q aJ) (dY f rfl o r)) (av (bY z (b7 q aJ) (dY f rfl A r)) (av (bY z (b7 q aJ) (dY f rfl p r)) aD))) rF
 refine ai (aL (b:=false) (aE rfl (bI (T4 _ 8 _ rfl rfl rfl) (aB rfl) n3) rfl) (zb ·) λ_=>az ?_);refine ai (aL (b:=false) (af:=bF ns O2 (cg S) x (S.length:Nat) (B:Nat) y [some (.val (.tup [E,.str X,.tup [.int (m:Nat),.int (B:Nat)]])),some (.oo aH O2),some (.oo aH O),some (.val (.tup [E2,.str X2,.tup [.int ((m+2:Nat):Int),.int ((0:Nat):Int)]]))]) (aE rfl (bI (cZ (aX rfl (aB rfl) (b7 rfl aJ)) (SE rfl rfl e rfl)) (aB rfl) n4) rfl) (zb ·) λ_=>az ?_);refine ai (aL (b:=false) (aE rfl (bI (T4 _ 9 _ rfl rfl rfl) (aB rfl) n3) rfl) (zb ·) λ_=>az ?_);exact fin _ _
def Qg(hn:ns.length<=63)(hw:5000<w):run prog w (n+12) 21 [.val (dW ns)]=some (.bl true,[]):=by
 have f:(txt ns 0 5).length<=5:=JZ ns 0 (most:=5) (by decide);have C:=λfr=>gj (fr:=fr) (ES (F:=prog) (c:=13) (dr:=14) (t:=15) (w:=w) (n:=n+8) rfl rfl hn rfl 0 5 (by decide) (by decide));have dr:=λ(k:Int) (m:Nat) (hm:0<m) fr=>gj (fr:=fr) (eY (F:=prog) (c:=13) (dr:=14) (w:=w) (n:=n+9) rfl rfl hn k (many:=(m:Int)) (by omega));have H:=dr 10 6 (by decide);obtain⟨d,M,hd⟩:=drawn (ns:=ns) 10 6 (by decide);rw[M]at H;have P:Pv.bP .add (.int 2) (.int (d:Int))=some (.int ((d+2:Nat):Int)):=by rw[cj];congr 2;omega
 have Q:=zu (F:=prog) (fd:=32) (eO:=31) (m:=n+9) (w:=w) rfl rfl;generalize txt ns 0 5=t at f C
 have W:=mZ (F:=prog) (i:=26) (w:=w) (n:=n+10) (t:=t) (S:=[]) (L:=[]) rfl (by decide);refine bX (fn:=DA) rfl rfl ?_;refine ai (Rn (l:=lO t [] []) (av (cZ (aX rfl (aB rfl) (aX rfl (aR rfl) (aX rfl (aR rfl) aJ))) (C _)) aD) Q rfl rfl rfl ?_);refine ai (iV (l:=cg []) (ao:=aF ns (lO t [] []) (cg []) none) (jz (av (bY (gO (c:=aH) (l:=lO t [] [])) (b7 rfl aJ) (dY rfl rfl W rfl)) aD) AK) rfl rfl ?_);refine ai (gY (vs:=range 0 (d+2)) (af:=aF ns (lO t [] []) (cg []) none) (iU (av (aU (aR rfl) (cZ (aX rfl (aB rfl) (aX rfl (aR rfl) (aX rfl (aR rfl) aJ))) (H _)) P) aD) (wO (by omega) rfl)) ?_);refine jh (lo:=0) (N:=d+2) (λk fr=>∃S x,S.length=k/\(∀s∈S,Gs t k s)/\vo x/\fr=aF ns (lO t S []) (cg S) x) (λk fr o ⟨S,x,I,G,p,a⟩=>?_) (λfr ⟨S,x,I,G,p,a⟩=>?_) ⟨[],none,rfl,(λs e=>(List.not_mem_nil e).elim),.none,rfl⟩
 .subst a;obtain⟨s,G1,r⟩:=qI (w:=w) (n:=n+1) hn hw f (j:=k) (by omega) G (by omega) (20+70*(0+(k:Nat)));replace r:=r [];have G2:∀z∈S++[s],Gs t (k+1) z:=λz e=>by
   rcases List.mem_append.mp e with e|e
   .exact(G z e).mono (by omega)
   .rw[Z8]at e;subst e;exact G1
  have cl:=(cur f G2).rl;have X:=mZ (F:=prog) (i:=26) (w:=w) (n:=n+10) (t:=t) (S:=S++[s]) (L:=[]) rfl (by omega);have Y:(cg S).length<100000:=by unfold cg;simp;omega
  have Z:=Qf S s;refine dh (af:=aF ns (lO t S []) (cg S) (some (.val (.int (0+(k:Nat)))))) (bind1 rfl p) ?_;refine ai (cS (af:=aF ns (lO t (S++[s]) []) (cg S) (some (.val (.int (0+(k:Nat)))))) (cZ (aX rfl (aB rfl) (aX rfl (aU (aR rfl) (aU (aR rfl) (aB rfl) (jV (A7 _))) cj) (b7 rfl aJ))) (Ff rfl rfl r rfl)) ?_);refine ai (cS (af:=aF ns (lO t (S++[s]) []) (cg (S++[s])) (some (.val (.int (0+(k:Nat)))))) (rP rfl rfl (av (bY (gO (c:=aH) (l:=lO t (S++[s]) [])) (b7 rfl aJ) (dY (ao:=aF ns (lO t (S++[s]) []) (cg S) (some (.val (.int (0+(k:Nat)))))) rfl rfl X rfl)) aD) ((j9 Y).trans (by rw[Z];rfl))) (az ?_));rw[dB];exact⟨S++[s],_,by simp[I],G2,.val,rfl⟩
 .subst a;have hS:S.length<=7:=by omega
  have GS:∀s∈S,Gs t 7 s:=λs e=>(G s e).mono (by omega);have ln:dS .len [.lst (cg S)]=some (.int ((S.length+1:Nat):Int)):=by rw[pM];unfold cg;simp
  have s1:Pv.bP .sub (.int ((S.length+1:Nat):Int)) (.int 1)=some (.int (S.length:Nat)):=by rw[jf];congr 2;omega
  have J:=dr 11 S.length (by omega);obtain⟨b,eb,hb⟩:=drawn (ns:=ns) 11 S.length (by omega);rw[eb]at J;have a3:Pv.bP .add (.int 1) (.int (b:Int))=some (.int ((b+1:Nat):Int)):=by rw[cj];congr 2;omega
  have K:=jI (w:=w) (n:=n+10) (t:=t) (S:=S) (k:=S.length) (ZO _);rw[abV]at K;have g1:=Fx (w:=w) (n:=n+9) (t:=t) (S:=S) (j:=7) (by omega) f GS (by omega);have A:=λ(y:Option Sl) (g:vo y)=>Kw (w:=w) (n:=n) hn hw f (m:=S.length - (b+1)) (B:=b+1) (by omega) hS GS p g;have bk:=λk (o:k<S.length)=>tU (w:=w) (n:=n+10) (t:=t) (S:=S) (k:=k) o (by omega);rw[<-DF];refine ai (bD (aU (gM (av (aB rfl) aD) ln) (aR rfl) s1) rfl rfl ?_);refine ai (aL (b:=false) (af:=[some (.val (dW ns)),some (.oo aH (ld t S S.length)),some (.own (cg S)),x,some (.val (.int (S.length:Nat))),none,none,none,none,none,none]) (iR (af:=[some (.val (dW ns)),some (.oo aH (ld t S S.length)),some (.own (cg S)),x,some (.val (.int (S.length:Nat))),none,none,none,none,none,none]) (aE rfl (bI (bY (gO (c:=aH) (l:=ld t S S.length)) (b7 rfl aJ) (dY (ao:=[some (.val (dW ns)),some (.oo aH (ld t S S.length)),some (.own (cg S)),x,some (.val (.int (S.length:Nat))),none,none,none,none,none,none]) rfl rfl K rfl)) (cY (av (aB rfl) (av (aR rfl) aD)) gi) (Vi rfl rfl)) rfl) (rR (b:=true) (aE rfl (cZ (b7 rfl (b7 rfl aJ)) (W2 (by decide) rfl rfl rfl rfl g1 rfl)) rfl))) (zb ·) λ_=>az ?_);refine ai (bD (ao:=bF ns (ld t S S.length) (cg S) x (S.length:Nat) ((b+1:Nat):Int) none [none,none,none,none]) (aU (aR rfl) (cZ (aX rfl (aB rfl) (aX rfl (aR rfl) (aX rfl (aB rfl) aJ))) (J _)) a3) rfl rfl ?_);refine ai (gY (vs:=range 0 (b+1)) (af:=bF ns (ld t S S.length) (cg S) x (S.length:Nat) ((b+1:Nat):Int) none [none,none,none,none]) (iU (av (aB rfl) aD) (wO (by omega) rfl)) ?_);refine jh (lo:=0) (N:=b+1) (λk fr=>∃y,vo y/\fr=bF ns (ld t S (S.length - k)) (cg S) x (S.length:Nat) ((b+1:Nat):Int) y [none,none,none,none]) (λk fr o ⟨y,g,a⟩=>?_) (λfr ⟨y,g,a⟩=>?_) ⟨none,.none,rfl⟩
  .subst a;obtain⟨q,hq⟩:∃q,S.length - k=q+1:=⟨S.length - k - 1,by omega⟩
   have eq:S.length - (k+1)=q:=by omega
   have b1:=bk q (by omega);rw[hq,eq];generalize ld t S (q+1)=O1 at *
   generalize ld t S q=O2 at *
   refine dh (bind1 rfl g) (ai (cS (bY (gO (c:=aH) (l:=O1)) (b7 rfl aJ) (dY rfl rfl b1 rfl)) (az ?_)));rw[dB];exact⟨_,.val,rfl⟩
  .subst a;exact A y g
end
def good:∀ns:List Int,ns.length<=63->∃h',Ev.run prog 100000 60 21 [.ref 0] [.bT (ns.map Ev.D.int)]=.ok (.bl true) h':=λns h=>Jy (Qg (w:=100000) (n:=48) h (by decide))
end Lg
theorem Lw.good:∀ns:List Int,ns.length<=63->∃h',Ev.run Lw.prog 100000 60 21 [.ref 0] [.bT (ns.map Ev.D.int)]=.ok (.bl true) h':=Lg.good
structure PySem.W.Fast:Prop where(tw3214517790922119232 tw9439534657483926020 tw9046132685264169594 tw6479752560160971072 tw3560031306729479040 tw8716607168155451379 tw2809253435268187841 tw2960087091044490450 tw11988582992081665544 tw17182639687896150417 tw8811264673797257385 tw9552020647796615680 tw9542817698786553947 tw4271640376538399789 tw11153075643448599242 tw3651852794156576279 tw11456454549062522427 tw10897448378288975933 tw9688898849984783454 tw5350100475845605468 tw1772185307255884856 tw12761445759561303149 tw15600842801649073545 tw9433874336284161314 tw15691588213329749918 tw4767562235743023494 tw14591961058597532209 tw6158610834603834590 tw3600448872475944881 tw4478996689016504329 tw12255227003007145922 tw6390679661856608161 tw14844950213649292125 tw3473706163881684478 tw8874474101138418565 tw7408807259975638036 tw1832419396276952155 tw13898462494732110184 tw15432061460825695012 tw13620394843291125644 tw4022462540041497341 tw15251491250903417497 tw15395108563578255483 tw1078248325696632379 tw6460203627050530038 tw13605510418370657546 tw16936360222088787350 tw11254033284275074247 tw3507835657508174892 tw1590152420007194840 tw9699930300075343151 tw6095140166344921828 tw14661055457800758470 tw18094471211176307317 tw17291262867160321327 tw7803905447855582690 tw2966554018402222550 tw14154135531841304854 tw3541280357720645074 tw16602293116199756665 tw4768346249693502474 tw10824837185882173150 tw13051662995674464213 tw13198960376120083814 tw12141489351048759121 tw1360186872356208647 tw4979440273668189558 tw7114418823599069932 tw15824724194997966260 tw6105840143517037223 tw1358639590481734587 tw4118896232585598180 tw15314342529971072147 tw13828909925989554043 tw1945297034016028472 tw16587035967561013537 tw11543951881155688488 tw1144481414084751523 tw16770963186707171717 tw13443302667253900796 tw7191398563451518175 tw18422145017359637965 tw18051815684781352473 tw1145798733296046767 tw13189096594069440169 tw14588080079351261096 tw4387661417495176871 tw15673752066300269704 tw2387361774798277125 tw6081092329259725488 tw1812045041503943624 tw8868253866300062141 tw10743127218291885690 tw13867493428071772328 tw10742181687068117540 tw10941225468932964531 tw11647656422717187482 tw5688263348039904505 tw5717105986042157353 tw4742117208288280690 tw9607468425052604653 tw10370055131961011643 tw4391059091770989082 tw12371431023416365955 tw15711465589233134889 tw17644471014235224618 tw3505894747737803757 tw8032839289479289865 tw5087297787208899905 tw12626908668944922013 tw14808214828679395176 tw12653264866071308909 tw10973841088412770019 tw9090852638720401974 tw8497673744263804349 tw7114629987936217050 tw7958038407293485762 tw10984720512500249862 tw9084093979471416047 tw12844936594520694354 tw17806756597659206292 tw6462947457121916109 tw1512921294469352976 tw17306200476371357793 tw12324056137068837851 tw2140941354277682369 tw399969829138144712 tw9421942940713542489 tw9329299798837872914 tw6427165676680010714 tw6826076950118573549 tw7032978799511782290 tw2588532517508960378 tw9195537911646749734 tw2545080036398551517 tw11481605278221942983 tw7726639330589436961 tw7498128910015205799 tw9448787069335370898 tw16408817023272915018 tw17840334264382491808 tw14773020374287094085 tw8725156926821887434 tw14530868247354508764 tw12956229727480036427 tw12909768949942495766 tw1162201553182827026 tw16859319607709970806 tw5162701269382606790 tw2809184318639009159 tw3037986200855060208 tw18115465635662122592 tw5739643935979657338 tw5858729819986219673 tw14897752794912675500 tw14784919154119316973 tw232518545853906723 tw7784076574941904429 tw7940794671920770267 tw4347674154115316947 tw6380340663795739653 tw13503395806013943791 tw12618101843309454691 tw17477667383238795848 tw6866622634483653556 tw8028053452757291197 tw6005779867075593019 tw11332527620005494387 tw7967786757565658291 tw737528355320131582 tw6701320704413390770 tw10703338983397338574 tw10320795535054471532 tw9777336687946335193 tw16062015393566641444 tw5936845019051432234 tw1145400448198406369 tw2970293916877722926 tw15051131592447687763 tw7717866319654524019 tw18076938149684519131 tw318370984657712359 tw3406763354237467196 tw4879997583086342792 tw6599308886903130105 tw6540570651399080578 tw11579382107711213707 tw11461144459393848903 tw10311940945124848427 tw4221379419203233893 tw8787791227822946444 tw15925550787846267623 tw5816110173660255094 tw2854425152305940806 tw13865864549467651963 tw11398416666245249421 tw5583612018100185933 tw14540067218491697862 tw13482654750612878242 tw7647572542120300562 tw10439528880662684199 tw12437349604247910917 tw9143988852049997111 tw16060471630737233248 tw6172448647748922397 tw1854625725559199150 tw11416420537355796854 tw6832927700157825862 tw12865790403716715744 tw10945183908134184740 tw6791192257867234158 tw1365738925634625385 tw180420486499710834 tw445315966165637542 tw1466872229716837096 tw10228438491882013923 tw111923592988373970 tw1121345887553494853 tw3109379717553388789 tw15748536923370774122 tw7633379678248837121 tw11006655634659956935 tw10631098515801975516 tw4972076623816469696 tw192609576616479413 tw903942413897785038 tw4228501168907753823 tw6513566883173535742 tw1737235264957605370 tw14215208765097803735 tw13460285160735259473 tw14564855775159456635 tw10931860320400489981 tw9889486888929100320 tw16751582321025318373 tw608089894163556684 tw4472767349693612773 tw8994336960822657817 tw17396035114448683587 tw5379471924953459210 tw14447959987459245784 tw1176411799219150602 tw497016542191335120 tw9708605230947951622 tw4188933591185519693 tw6276507796626063099 tw16628370396568035162 tw7168522884151164478 tw17086749742255411582 tw15090815546236102023 tw15586229090638190551 tw12938120355674116551 tw5816394544260790436 tw2312412377059198894 tw14885856297537044062 tw1127319955544810844 tw3153699141869815791 tw9247822927080065786 tw11879934759160579885 tw17281473799130151748 tw7826665787784704733 tw201944593704455055 tw10059296247727762115 tw7931870548050697970 tw14174246594071196473 tw9299584870897818644 tw15022929487465410361 tw2833576201789815123 tw10589591339430286495 tw1592833841346258032 tw5046239836141960835:True)
open PySem PySem.W PyProof.Rows
set_option maxRecDepth 100000 in
set_option maxHeartbeats 0 in
theorem PySem.Challenge.cw_pastways_k74_whole_back_and_twins_holds : PySem.Challenge.rw_pastways_k74_whole_back_and_twins.Holds := by
 w_on;o_law;k_head;(case hw=>w_witness2)
 k_fill
 refine Sm.Jg (F:=Lw.prog) (wh:=100000) (n:=60) (f:=21) (x:="_law_script") (l:=PySem.Challenge.rw_pastways_k74_whole_back_and_twins) rfl rfl ⟨rfl,by decide,by decide⟩ (λw h Y=>PySem.W.kIn_of Y) Lw.good ?F
 case F=>
  intro w mg fa h KX G hmg
  refine' Lw.all_mk KX G hmg ⟨?a0,L2.bO ?l0 ?c0 ?k0⟩ ⟨?a1,L2.bO ?l1 ?c1 ?k1⟩ ⟨?a2,L2.bO ?l2 ?c2 ?k2⟩ ⟨?a3,L2.bO ?l3 ?c3 ?k3⟩ ⟨?a4,L2.bO ?l4 ?c4 ?k4⟩ ⟨?a5,L2.bO ?l5 ?c5 ?k5⟩ ⟨?a6,L2.bO ?l6 ?c6 ?k6⟩ ⟨?a7,L2.bO ?l7 ?c7 ?k7⟩ ⟨?a8,L2.bO ?l8 ?c8 ?k8⟩ ⟨?a9,L2.bO ?l9 ?c9 ?k9⟩ ⟨?Ye,L2.bO ?Yg ?Yh ?Yi⟩ ⟨?Yj,L2.bO ?Yk ?Yl ?Ym⟩ ⟨?Yn,L2.bO ?Yo ?c12 ?Yp⟩ ⟨?Yq,L2.bO ?Yr ?Ys ?Yt⟩ ⟨?Yu,L2.bO ?Yv ?Yw ?Yx⟩ ⟨?Yy,L2.bO ?Yz ?YA ?YB⟩ ⟨?YC,L2.bO ?YD ?YE ?YF⟩ ⟨?YG,L2.bO ?YH ?YI ?YJ⟩ ⟨?YK,L2.bO ?YL ?YM ?YN⟩ ⟨?YO,L2.bO ?YQ ?YR ?YS⟩ ⟨?YT,L2.bO ?YU ?YV ?YW⟩ ⟨?YX,L2.bO ?YY ?YZ ?Y0⟩ ⟨?Xr,?Xu,?Xv,?Xw,?Xx,?Xy,?Xz⟩ ⟨?Y3,?Y4,L2.bO ?Y5 ?Y6 ?Y7⟩ ?XC ?XD ?XE ⟨?Y8,?XF,L2.bO ?Y9 ?Za ?Zb⟩ ⟨?Zc,?XG,L2.bO ?Zd ?Ze ?Zf⟩ ⟨?Zg,?XH,L2.bO ?Zh ?Zi ?Zj⟩ ⟨?Zk,?XI,L2.bO ?Zl ?Zm ?Zn⟩ ⟨?Zo,?XJ,L2.bO ?Zp ?Zq ?Zr⟩ ⟨?Zs,?XM,L2.bO ?Zt ?Zu ?Zv⟩ ⟨?Zw,?XN,L2.bO ?Zx ?Zy ?Zz⟩ ⟨?ZA,?XO,L2.bO ?ZC ?ZD ?ZE⟩ ⟨?ZF,?XQ,L2.bO ?ZG ?ZH ?ZI⟩ ?z0 ?z1 ?z2 ?z3 ?z4 ?z5 ?z6 ?q0;all_goals try first|k_is|rfl|decide +kernel | (with_unfolding_all rfl)

import PyProof.Rows.All
import Wide.All
import OpenK.AllK
import Wide.FinOn
import Lean
import PyProof.EqAt
import PyProof.EqKinds
import PyProof.TupleCall
import PyProof.NeKinds
import PyProof.StrLawsIn
import KE.KRevSl
import PyProof.ZipIter
import PyProof.ListRange
import PyProof.Rows.SortStr
import KE.KRevIter
import KE.KDictSum
import PyProof.EnumMake
import PyProof.EnumFor
import KE.KIntText
import PyProof.CallStr
import PyProof.Rows.MinMaxN
import KE.KDictOf
import PyProof.AttrMissHeap
import PyProof.SetKind
import PySem.Challenge.RW_pastways_k44_whole_owners
set_option genInjectivity false
set_option genSizeOf false
set_option bootstrap.genMatcherCode false
set_option compiler.extract_closed false
set_option maxHeartbeats 4000000
noncomputable section
set_option Elab.async false
set_option linter.all false
set_option maxRecDepth 100000
def gV:=@PySem.wpAny_bind
def yy:=@List.getElem?_append_left
def LV:=@if_pos
def QJ:=@List.getElem?_eq_getElem
def Uk:=@List.getElem?_set_ne
def W0:=@Option.some.inj
def W2:=@Bool.and_eq_true
def Xm:=@List.size_toArray
def aaa:=@Nat.lt_of_lt_of_le
def aab:=@Option.map_eq_some_iff
def aac:=@PySem.Heap.get?_push_of_some
def aad:=@List.getElem?_set_self
def aae:=@Nat.le_refl
def aaf:=@PySem.wpAny_pure
def aag:=@List.mem_of_getElem?
def aah:=@Option.bind_eq_some_iff
def aai:=@List.map_cons
def aaj:=@if_neg
def aak:=@List.replicate_succ
def aal:=@List.length_cons
def aam:=@List.length_append
def aan:=@PySem.Heap.lt_size
def aao:=@List.map_append
def aap:=@List.mem_cons_of_mem
def aaq:=@List.length_map
def aar:=@List.getElem?_eq_none
def aas:=@Nat.le_trans
def aat:=@PySem.Heap.get?_push_size
def aau:=@congrArg
def aav:=@decide_eq_false
def aaw:=@List.reverse_cons
def aax:=@if_true
def aay:=@Bool.false_eq_true
def aaz:=@List.getElem?_append_right
def aaA:=@List.getElem?_map
def aaB:=@Nat.ne_of_lt
def aaC:=@List.mem_cons_self
def aaD:=@List.append_nil
def aaE:=@List.mem_append_right
def aaF:=@Nat.lt_irrefl
def aaG:=@List.take_succ_cons
def aaH:=@List.length_singleton
def aaI:=@List.eq_nil_or_concat
def aaJ:=@List.concat_eq_append
def aaK:=@PySem.AutoSeq1.wpAny_loadPart'
def aaL:=@List.foldl_cons
def aaM:=@List.take_of_length_le
def aaN:=@of_decide_eq_true
def aaO:=@List.append_assoc
def aaP:=@List.filterMap_cons
def aaQ:=@PySem.wpAny_ite_split
def aaR:=@Bool.or_eq_true
def aaS:=@List.cons_append
def aaT:=@List.mem_singleton
def aaU:=@Nat.zero_le
def aaV:=@decide_eq_true
def aaW:=@List.mem_append_left
def aaX:=@PySem.F.plainAttrs_list
def aaY:=@PySem.wpAny_newObj_type
def aaZ:=@if_false
def aa0:=@PySem.W.mg_none_of
def aa1:=@PySem.builtinLookup_eq_fast
def aa2:=@List.dropLast_eq_take
def aa3:=@PyProof.Rows.slot_tuple_getitem
def aa4:=@decide_eq_true_eq
def aa5:=@List.lookup_cons
def aa6:=@PySem.wpAny_mono
def aa7:=@PySem.wpAny_field
def aa8:=@PySem.sizeLine_eq
def aa9:=@List.drop_eq_nil_of_le
def aba:=@of_decide_eq_false
def abb:=@Bool.false_ne_true
def abc:=@PyProof.Rows.callWith_type1
def abd:=@PySem.wpAny_passesOwn
def abe:=@PySem.Heap.get?_update_self
def abf:=@List.getD_eq_getElem?_getD
def abg:=@List.flatten_cons
def abh:=@List.ext_getElem?
def abi:=@Bool.not_eq_true'
def abj:=@PySem.wpAny_of_eq
def abk:=@Ne.symm
def abl:=@List.drop_zero
def abm:=@PySem.wpAny_call_entry
def abn:=@PySem.mem_of_lookup
def abo:=@List.getElem?_range
def abp:=@List.drop_succ_cons
def abq:=@PySem.wpAny_callSpecial?_slot
def abr:=@PySem.call_meets
def abt:=@PySem.typeLookup_type
def abu:=@PySem.wpAny_Call_Name_kw
def abv:=@Nat.lt_of_le_of_lt
def abw:=@PySem.Heap.get?_update_other
def abx:=@Nat.add_comm
def aby:=@PySem.isSubtype_type
def abz:=@Nat.lt_succ_self
def abA:=@List.length_take
def abB:=@List.filter_cons
def abC:=@PyProof.Rows.len_str
def abD:=@Option.bind_eq_bind
def abE:=@Array.length_toList
def abF:=@PySem.wpAny_specialOf
def abG:=@List.range_succ
def abH:=@List.drop_eq_getElem_cons
def abI:=@PySem.Obj.data_mapFields
def abJ:=@Int.emod_lt_of_pos
def abK:=@PySem.F.type_list_append
def abL:=@PySem.F.slot_list_append
def abM:=@PySem.F.args_tuple_mul_2
def abN:=@PySem.F.args_tuple_add_2
def abO:=@Nat.mul_le_mul
def abP:=@List.drop_drop
def abQ:=@PySem.F.entry_tuple_mul
def abR:=@PySem.F.entry_tuple_add
def abS:=@Option.some.injEq
def abT:=@List.foldl_append
def abU:=@Int.toNat_natCast
def abV:=@PySem.F.slot_tuple_mul
def abW:=@PySem.F.slot_tuple_add
def abX:=@PySem.W.mg_of
def abY:=@Nat.add_assoc
def abZ:=@List.length_drop
def ab0:=@List.map_map
def ab1:=@Int.zero_add
def ab2:=@Nat.min_eq_left
def ab3:=@List.nodup_cons
def ab4:=@List.length_nil
def ab5:=@Int.emod_nonneg
def ab6:=@PySem.W.plainGet_of
def ab7:=@PySem.Heap.SameBut.update
def ab8:=@PySem.W.callWith_K
def ab9:=@Option.isSome_some
def acd:=@List.filter_append
def ace:=@PySem.wpAny_attempt
def acf:=@PySem.Calls.Name_function_global
def acg:=@PySem.wpAny_truthy_bool
def ach:=@PySem.typeIs_int
def aci:=@PySem.wpAny_binaryOp_repeat_ref
def acj:=@List.getElem?_eq_none_iff
def ack:=@Array.getElem?_eq_getElem
def acm:=@PySem.wpAny_typeOf
def acn:=@PySem.codeAny_mono
def aco:=@List.map_nil
def acp:=@PySem.wpAny_isInstance
def acq:=@PySem.noFill_tuple_add
def acr:=@Nat.min_eq_right
def acs:=@List.drop_length
def acu:=@List.append_inj'
def acv:=@PySem.AutoSeq1.idx_int
def acw:=@PySem.wpAny_comprehension_free
def acy:=@decide_eq_false_iff_not
def acz:=@List.getElem?_replicate
def acA:=@PySem.wpAny_updateSeq
def acB:=@PySem.wpAny_execs_nil
def acC:=@List.of_mem_zip
def acD:=@List.nil_append
def acE:=@List.head?_drop
def acF:=@PySem.W.cellsFrom_some
def acG:=@List.range_succ_eq_map
def acH:=@PySem.wpAny_setField
def acI:=@List.tail_drop
def acJ:=@PySem.Heap.size_push
def acK:=@PySem.W.methodCall_KW
def acL:=@PySem.F.type_list_pop
def acM:=@PySem.F.slot_list_pop
def acN:=@PySem.F.slot_int_rmul
def acO:=@List.take_append_drop
def acP:=@List.singleton_append
def acQ:=@List.length_replicate
def acR:=@PySem.wpAny_rule
def acS:=@List.getLast?_append
def acT:=@List.getElem?_of_mem
def acU:=@List.getElem?_modify
def acV:=@List.mem_cons
def acW:=@Nat.sub_lt_sub_left
def acX:=@List.flatMap_append
def acY:=@Nat.ne_of_gt
def acZ:=@Nat.le_of_lt
def ac0:=@Nat.le_succ
theorem zD{a b:Bool}{p:Prop}(h:a=b)(q:a≠b:=by decide):p:=absurd h q
theorem zO{p:Prop}(h:p:=by first|exact .inl rfl|exact .inr rfl|assumption):p:=h
theorem zP{p:Prop}(h:p:=by decide):p:=h
theorem zb{p:Prop}(h:p:=by rfl):p:=h
theorem zf{p:Prop}(h:p:=by intro _;rfl):p:=h
theorem zi{p:Prop}(h:p:=by decide +kernel):p:=h
theorem zl{p:Prop}(h:p:=by intro _ _;rfl):p:=h
theorem zn{p:Prop}(h:p:=by first|exact Or.inl rfl|exact Or.inr ⟨rfl,rfl⟩):p:=h
namespace L2
open PySem PySem.Spec PyProof.Rows
abbrev Key:=Sum Int Str
noncomputable def kQ:Key->Value->Bool
 |.inl k,v=>Value.isInt k v
 |.inr x,v=>Value.isStrOf x v
noncomputable def V1(w:World):Key->Int
 |.inl k=>hashInt k
 |.inr x=>hashStr w x
def dI:∀{k:Key}{v:Value},kQ k v=true->(∃i t,k=Sum.inl i/\v=Value.int i t)\/(∃x t,k=Sum.inr x/\v=Value.str x t)
 |.inl i,v,h=>by
  obtain⟨t,e⟩:=Value.isInt_shape (k:=i) (v:=v) h;exact .inl ⟨i,t,rfl,e⟩
 |.inr x,v,h=>by
  obtain⟨t,e⟩:=Value.isStrOf_shape (x:=x) (v:=v) h;exact .inr ⟨x,t,rfl,e⟩
def tZ(i:Int)(t:Tok):kQ (.inl i) (.int i t)=true:=by simp[kQ,Value.isInt]
def t6(x:Str)(t:Tok):kQ (.inr x) (.str x t)=true:=by simp[kQ,Value.isStrOf]
def Mb(a b:Int):decide ((Sum.inl a:Key)=Sum.inl b)=(a==b):=by
 by_cases e:a=b
 .subst e;simp
 .have h:¬ (Sum.inl a:Key)=Sum.inl b:=λq=>e (Sum.inl.inj q);rw[aav h];exact(beq_eq_false_iff_ne.mpr e).symm
def Mc(a b:Str):decide ((Sum.inr a:Key)=Sum.inr b)=decide (a=b):=by
 by_cases e:a=b
 .subst e;simp
 .have h:¬ (Sum.inr a:Key)=Sum.inr b:=λq=>e (Sum.inr.inj q);rw[aav h,aav e]
def Me(a:Int)(b:Str):decide ((Sum.inl a:Key)=Sum.inr b)=false:=aav (λq=>nomatch q)
def Mf(a:Str)(b:Int):decide ((Sum.inr a:Key)=Sum.inl b)=false:=aav (λq=>nomatch q)
noncomputable def aQ(prog:Program)(w:World):PySem.KeyKind prog w Key where
 is:=kQ
 hash:=V1 w
 inj:=λv a b g f=>by
  rcases dI g with ⟨i,t,rfl,rfl⟩|⟨x,t,rfl,rfl⟩
  .rcases dI f with ⟨j,u,rfl,e⟩|⟨y,u,rfl,e⟩
   .injection e with c _;rw[c]
   .exact nomatch e
  .rcases dI f with ⟨j,u,rfl,e⟩|⟨y,u,rfl,e⟩
   .exact nomatch e
   .injection e with c _;rw[c]
 byValue:=λk v h=>by
  rcases dI h with ⟨i,t,rfl,rfl⟩|⟨x,t,rfl,rfl⟩<;>rfl
 pyHash:=λd h=>by
  rcases dI d with ⟨i,t,rfl,rfl⟩|⟨x,t,rfl,rfl⟩
  .exact wpAny_pyHash_int h
  .exact wpAny_pyHash_str h
 eqBool:=λl d h=>by
  rcases dI l with ⟨i,t,rfl,rfl⟩|⟨x,t,rfl,rfl⟩
  .rcases dI d with ⟨j,u,rfl,rfl⟩|⟨y,u,rfl,rfl⟩
   .rw[Mb]at h;exact wpAny_eqBool_int h
   .rw[Me]at h;exact SeqAt.EqAt.int_str i t y u _ _ _ _ h
  .rcases dI d with ⟨j,u,rfl,rfl⟩|⟨y,u,rfl,rfl⟩
   .rw[Mf]at h;exact SeqAt.EqAt.str_int x t j u _ _ _ _ h
   .rw[Mc]at h;exact wpAny_eqBool_str h
 «strs»:=λk x t v h=>by
  rcases dI h with ⟨i,u,rfl,e⟩|⟨y,u,rfl,e⟩
  .exact nomatch e
  .injection e with c _
   subst c;cases v<;>rfl
def zc(prog:Program)(w:World)(i:Int)(t:Tok):(aQ prog w).is (.inl i) (.int i t)=true:=tZ i t
def zd(prog:Program)(w:World)(x:Str)(t:Tok):(aQ prog w).is (.inr x) (.str x t)=true:=t6 x t
inductive V where
 |aD|bl (b:Bool)|int (i:Int)|str (x:Str)|Cr (b:Array UInt8)|Mg (b:UInt64)|ref (a:Addr)|ty (n:String)
 deriving DecidableEq
def RelV:V->Value->Prop
 |.aD,u=>u=Value.none
 |.bl b,u=>u=Value.bool b
 |.int i,u=>∃t,u=Value.int i t
 |.str x,u=>∃t,u=Value.str x t
 |.Cr b,u=>∃t,u=Value.bytes b t
 |.Mg b,u=>∃t,u=Value.float b t
 |.ref a,u=>u=Value.ref a
 |.ty n,u=>u=Value.type n
abbrev Vals:List V->List Value->Prop:=Paired RelV
theorem Vals.length{xs:List V}{us:List Value}(r:Vals xs us):xs.length=us.length:=Paired.length r
theorem Vals.get:∀{xs:List V}{us:List Value}{i:Nat}{x:V},Vals xs us->xs[i]?=some x->∃u,us[i]?=some u/\RelV x u
 |_,_,_,_,.nil,e=>by simp at e
 |_,_,0,_,.cons r _,e=>by simp at e;subst e;exact⟨_,rfl,r⟩
 |_,_,i+1,x,.cons _ t,e=>by
  obtain⟨u,a,b⟩:=Vals.get (i:=i) (x:=x) t (by simpa using e);exact⟨u,by simpa using a,b⟩
theorem Vals.append:∀{xs ys:List V}{us ws:List Value},Vals xs us->Vals ys ws->Vals (xs++ys) (us++ws)
 |_,_,_,_,.nil,s=>s
 |_,_,_,_,.cons r t,s=>.cons r (Vals.append t s)
theorem Vals.take:∀{xs:List V}{us:List Value}(n:Nat),Vals xs us->Vals (xs.take n) (us.take n)
 |_,_,0,_=>.nil
 |_,_,_+1,.nil=>.nil
 |_,_,n+1,.cons r t=>.cons r (Vals.take n t)
theorem Vals.drop:∀{xs:List V}{us:List Value}(n:Nat),Vals xs us->Vals (xs.drop n) (us.drop n)
 |_,_,0,r=>r
 |_,_,_+1,.nil=>.nil
 |_,_,n+1,.cons _ t=>Vals.drop n t
def jM:Option V->Option Value->Prop
 |some v,some u=>RelV v u
 |none,none=>True
 |_,_=>False
def KV{κ:Type}:List (κ×V)->List (κ×Value)->Prop:=Paired λ(p:κ×V) (q:κ×Value)=>p.1=q.1/\RelV p.2 q.2
noncomputable def kV:Key->V
 |.inl i=>.int i
 |.inr x=>.str x
set_option genInjectivity true in
inductive HO where
 |lst (xs:List V)
 |tup (xs:List V)
 |dK (kvs:List (Key×V))|dT (kvs:List (List Key×V))
 |set (S:Int->Bool) (n:Nat)
 |ins (C dx:Addr) (fs:List (Str×V))
 |own (x:Addr)
 |xd (fs:List (Str×V))
 |met (f x:Addr)
 |jh (lo hi:Int)
 |bK (o:Obj) (u:HO)
 |vK (ps:Array Value)
 |ext (φ:Heap->Prop)
abbrev Hp:=Addr->Option HO
noncomputable def upd(H:Hp)(a:Addr)(o:HO):Hp:=λb=>if b=a then some o else H b
def dZ{H:Hp}{a:Addr}{o:HO}:upd H a o a=some o:=by unfold upd;rw[LV rfl]
def aJ{H:Hp}{a b:Addr}{o:HO}(h:b≠a):upd H a o b=H b:=by unfold upd;rw[aaj h]
def JM{H:Hp}{a:Addr}{o u:HO}:upd (upd H a o) a u=upd H a u:=by
 funext b;unfold upd;split<;>rfl
def gh{H:Hp}{a b:Addr}{o u:HO}(h:H a=some o)(h':H b=some u)(d:o≠u):a≠b:=by
 intro e;subst e;rw[h]at h';exact d (W0 h')
def bh{H:Hp}{a b:Addr}{o:HO}(h:H a=some o)(h':H b=none):a≠b:=by
 intro e;subst e;rw[h]at h';cases h'
section
variable(P:Program)(w:World)
def dJ(H:Hp)(h:Heap)(a:Addr):HO->Prop
 |.lst b=>b.length<=sizeLine/\∃(its:List Value) (n:Nat),Vals b its/\h.get? a=some { cls:=.type "list",data:=.seq its.toArray n }
 |.tup b=>b.length<=sizeLine/\∃its:List Value,Vals b its/\IsTup h a its.toArray
 |.dK kvs=>kvs.length<=sizeLine/\(a==sysModules)=false/\∃vs,KV kvs vs/\h.DictOf (aQ P w) a vs
 |.dT kvs=>kvs.length<=sizeLine/\(a==sysModules)=false/\∃b:List (List Key×Addr×Value),
   Paired (λ(p:List Key×V) (q:List Key×Addr×Value)=>p.1=q.1/\H q.2.1=some (.tup (p.1.map kV))/\RelV p.2 q.2.2) kvs b/\
   ∃o es ep,h.get? a=some o/\o.ExactDict/\o.data=.dict es ep/\es.toList=b.map (entryOfKey (tupleKind (aQ P w)))/\(b.map (·.1)).Nodup
 |.set S n=>h.SetOf (intKind P w) a S n
 |.ins C c fs=>H c=some (.own a)/\fs.length<=1000/\c≠a/\h.get? a=some (PySem.W.instObj C c)/\
   ∃mA,h.Ns1 c mA/\(∀f,jM (fs.lookup f) (mA f))/\PySem.Within mA (fs.map (·.1))
 |.own _=>∃o,h.get? a=some o
 |.xd fs=>∃mA,h.Ns1 a mA/\∀f,jM (fs.lookup f) (mA f)
 |.jh d e=>∃t u v,h.get? a=some { cls:=.type "range",data:=.fields #[.int d t,.int e u,.int 1 v]}
 |.bK o u=>h.get? a=some o/\dJ H h a u
 |.vK ps=>h.get? a=some { cls:=.none,data:=.fields ps }
 |.met f x=>h.get? a=some (PySem.W.methodObj (.ref f) (.ref x))
 |.ext φ=>φ h/\(∃o,h.get? a=some o)/\∀h1 h2:Heap,φ h1->(∀o,h1.get? a=some o->h2.get? a=some o)->φ h2
def fq(H:Hp)(h:Heap):Prop:=∀a o,H a=some o->dJ P w H h a o
end
section
variable{P:Program}{w:World}{H H':Hp}{h h':Heap}{a:Addr}{o:HO}
theorem dJ.lt(x:dJ P w H h a o):a<h.objs.size:=by
 cases o with
 |lst b=>obtain⟨_,_,_,_,e⟩:=x;exact aan e
 |tup b=>obtain⟨_,_,_,p⟩:=x;exact p.lt
 |dK kvs=>obtain⟨_,_,_,_,o,_,_,e,_⟩:=x;exact aan e
 |dT kvs=>obtain⟨_,_,_,_,o,_,_,e,_⟩:=x;exact aan e
 |set S n=>obtain⟨o,_,_,_,e,_⟩:=x;exact aan e
 |ins C c fs=>obtain⟨_,_,_,e,_⟩:=x;exact aan e
 |own y=>obtain⟨_,e⟩:=x;exact aan e
 |xd fs=>obtain⟨_,⟨_,_,_,e,_⟩,_⟩:=x;exact aan e
 |jh d g=>obtain⟨_,_,_,e⟩:=x;exact aan e
 |bK i u=>obtain⟨e,_⟩:=x;exact aan e
 |vK ps=>exact aan (show h.get? a=some _ from x)
 |met f y=>exact aan (show h.get? a=some _ from x)
 |ext φ=>obtain⟨_,⟨_,e⟩,_⟩:=x;exact aan e
theorem Paired.Fc{α β:Type}{F G:α->β->Prop}:∀{l₁:List α}{l₂:List β},Paired F l₁ l₂->(∀a b,F a b->G a b)->Paired G l₁ l₂
 |_,_,.nil,_=>.nil
 |_,_,.cons r t,f=>.cons (f _ _ r) (Paired.Fc t f)
def dJ.stay(x:dJ P w H h a o)(k:∀b u,(b=a\/H b=some (.own a))->h.get? b=some u->h'.get? b=some u)
  (ho:∀b,H b=some (.own a)->H' b=some (.own a)) (ht:∀b xs,H b=some (.tup xs)->H' b=some (.tup xs)):dJ P w H' h' a o:=by
 induction o with
 |lst xs=>obtain⟨z,l,n,r,e⟩:=x;exact⟨z,l,n,r,k _ _ (.inl rfl) e⟩
 |tup xs=>obtain⟨z,l,r,g,e,c⟩:=x;exact⟨z,l,r,g,k _ _ (.inl rfl) e,c⟩
 |dK kvs=>obtain⟨z,y,G,r,g,i,j,e,c⟩:=x;exact⟨z,y,G,r,g,i,j,k _ _ (.inl rfl) e,c⟩
 |dT kvs=>
  obtain⟨z,y,xs,r,g,i,j,e,c⟩:=x;exact⟨z,y,xs,Paired.Fc r λp q z=>⟨z.1,ht _ _ z.2.1,z.2.2⟩,g,i,j,k _ _ (.inl rfl) e,c⟩
 |set S n=>obtain⟨g,i,j,t,e,c⟩:=x;exact⟨g,i,j,t,k _ _ (.inl rfl) e,c⟩
 |ins C L fs=>
  obtain⟨d,z,I,e,A,⟨B,i,j,J,c⟩,r⟩:=x;exact⟨ho _ d,z,I,k _ _ (.inl rfl) e,A,⟨B,i,j,k _ _ (.inr d) J,c⟩,r⟩
 |own y=>obtain⟨g,e⟩:=x;exact⟨g,k _ _ (.inl rfl) e⟩
 |xd fs=>obtain⟨A,⟨B,i,j,e,c⟩,r⟩:=x;exact⟨A,⟨B,i,j,k _ _ (.inl rfl) e,c⟩,r⟩
 |jh M N=>obtain⟨t,u,v,e⟩:=x;exact⟨t,u,v,k _ _ (.inl rfl) e⟩
 |bK g u K=>obtain⟨e,q⟩:=x;exact⟨k _ _ (.inl rfl) e,K q⟩
 |vK ps=>
  have e:h.get? a=some { cls:=.none,data:=.fields ps }:=x;show h'.get? a=some { cls:=.none,data:=.fields ps };exact k a _ (.inl rfl) e
 |met f y=>
  have e:h.get? a=some (PySem.W.methodObj (.ref f) (.ref y)):=x;show h'.get? a=some (PySem.W.methodObj (.ref f) (.ref y));exact k a _ (.inl rfl) e
 |ext φ=>obtain⟨p,⟨o,e⟩,F⟩:=x;exact⟨F _ _ p λo q=>k _ _ (.inl rfl) q,⟨o,k _ _ (.inl rfl) e⟩,F⟩
theorem fq.lt(x:fq P w H h)(e:H a=some o):a<h.objs.size:=(x a o e).lt
def fq.fresh(x:fq P w H h)(e:h.objs.size<=a):H a=none:=by
 cases q:H a with
 |none=>rfl
 |some u=>exact absurd (aaa (x.lt q) e) (aaF _)
def fq.kept(x:fq P w H h)(k:∀b u,h.get? b=some u->h'.get? b=some u):fq P w H h':=λa o e=>
 (x a o e).stay (λb u _ q=>k b u q) (λ_ q=>q) λ_ _ q=>q
def fq.laid(x:fq P w H h)(k:∀b u,h.get? b=some u->h'.get? b=some u)(hp:h.objs.size<=a)(new:dJ P w (upd H a o) h' a o):fq P w (upd H a o) h':=λb u e=>by
 have d:=x.fresh hp;by_cases f:b=a
 .subst f;rw[dZ]at e;cases e;exact new
 .rw[aJ f]at e;exact(x b u e).stay (λc v _ q=>k c v q) (λc q=>by rw[aJ (bh q d)];exact q) λc g q=>by rw[aJ (bh q d)];exact q
end
def Rd(H:Hp)(a:Addr)(u:HO):Prop:=H a=some u\/∃o,H a=some (.bK o u)
def Rd.ok{P:Program}{w:World}{H:Hp}{h:Heap}{a:Addr}{u:HO}(r:Rd H a u)(x:fq P w H h):dJ P w H h a u:=by
 rcases r with r|⟨o,r⟩
 .exact x a u r
 .obtain⟨_,q⟩:=x a _ r;exact q
def Cs:Option HO->Prop
 |some (.lst _)=>True
 |some (.dK _)=>True
 |some (.dT _)=>True
 |some (.set _ _)=>True
 |some (.ins _ _ _)=>True
 |some (.ext _)=>True
 |_=>False
section
variable{P:Program}{w:World}{H:Hp}{h h':Heap}{x e:Addr}{o':HO}
def fq.write(ok:fq P w H h)(mu:Cs (H x))(he:e=x\/H e=some (.own x))(k:∀b u,b≠e->h.get? b=some u->h'.get? b=some u)(zv:∃u,h'.get? e=some u)
  (new:dJ P w (upd H x o') h' x o'):fq P w (upd H x o') h':=λb u q=>by
 have Mh:∀c y,H c=some (.own y)->c≠x:=λc y r z=>by subst z;rw[r]at mu;exact mu
 have V2:∀c a,H c=some (.tup a)->c≠x:=λc a r z=>by subst z;rw[r]at mu;exact mu
 by_cases d:b=x
 .subst d;rw[dZ]at q;cases q;exact new
 .rw[aJ d]at q;by_cases f:b=e
  .have i:H b=some (.own x):=by
    rcases he with z|z
    .exact absurd (f.trans z) d
    .rw[f];exact z
   rw[q]at i;cases i;obtain⟨v,j⟩:=zv;exact⟨v,by rw[f];exact j⟩
  .refine(ok b u q).stay (λc v g r=>k c v ?_ r) (λc r=>by rw[aJ (Mh c b r)];exact r) λc a r=>by rw[aJ (V2 c a r)];exact r
   rcases g with rfl|g
   .exact f
   .rintro rfl;rcases he with z|z
    .exact Mh c b g z
    .rw[g]at z;cases z;exact d rfl
end
structure Un(fs ex:List Addr)(H H':Hp)(h h':Heap):Prop where
 keep:∀b o,h.get? b=some o->H b=none->b∉fs->b∉ex->h'.get? b=some o
 slot:∀b o,h.get? b=some o->H b=none->b∈fs->b∉ex->∃sl,h'.get? b=some { o with slots:=sl }
 free:∀b o,h.get? b=some o->H b=none->b∉ex->H' b=none
 there:∀b o,h.get? b=some o->b∉ex->∃o',h'.get? b=some o'
 tups:∀b xs,H b=some (.tup xs)->H' b=some (.tup xs)
 mV:∀b o u,H b=some (.bK o u)->H' b=some (.bK o u)
 om:∀b ps,H b=some (.vK ps)->∃more,H' b=some (.vK (ps++more))
section
variable{fs ex:List Addr}{H H1:Hp}{h h1 h':Heap}{a x e:Addr}{o:HO}
def Un.any(u:Un fs ex H H1 h h1){b:Addr}{ob:Obj}(q:h.get? b=some ob)(n:H b=none)(hx:b∉ex):∃sl,h1.get? b=some { ob with slots:=sl }:=by
 by_cases c:b∈fs
 .exact u.slot b ob q n c hx
 .exact⟨ob.slots,u.keep b ob q n c hx⟩
def Un.kept(k:∀b u,h.get? b=some u->h'.get? b=some u):Un fs ex H H h h':=
 ⟨λb c q _ _ _=>k b c q,λb c q _ _ _=>⟨c.slots,k b c q⟩,λ_ _ _ n _=>n,λb c q _=>⟨c,k b c q⟩,λ_ _ q=>q,λ_ _ _ q=>q,λ_ ps q=>⟨#[],by rw[q];simp⟩⟩
def Un.refl:Un fs ex H H h h:=Un.kept λ_ _ q=>q
def Un.laid(k:∀b u,h.get? b=some u->h'.get? b=some u)(hp:h.objs.size<=a)(hn:H a=none):Un fs ex H (upd H a o) h h' where
 keep:=λb u q _ _ _=>k b u q
 slot:=λb u q _ _ _=>⟨u.slots,k b u q⟩
 free:=λb u q n _=>by rw[aJ (aaB (aaa (aan q) hp))];exact n
 there:=λb u q _=>⟨u,k b u q⟩
 tups:=λb c q=>by rw[aJ (bh q hn)];exact q
 mV:=λb u c q=>by rw[aJ (bh q hn)];exact q
 om:=λb ps q=>⟨#[],by rw[aJ (bh q hn),q];simp⟩
def Un.write(mu:Cs (H x))(he:e=x\/H e=some (.own x))(k:∀b u,b≠e->h.get? b=some u->h'.get? b=some u)(zv:∃u,h'.get? e=some u):Un fs ex H (upd H x o) h h':=by
 have d:∀b,H b=none->b≠x:=λb n z=>by subst z;rw[n]at mu;exact mu
 have f:∀b,H b=none->b≠e:=λb n z=>by
  subst z;rcases he with r|r
  .exact d b n r
  .rw[n]at r;cases r
 have c:∀b u,H b=some u->¬ Cs (some u)->b≠x:=λb u q nm z=>by subst z;rw[q]at mu;exact nm mu
 refine⟨λb u q n _ _=>k b u (f b n) q,λb u q n _ _=>⟨u.slots,k b u (f b n) q⟩,λb u q n _=>by rw[aJ (d b n)];exact n,λb u q _=>?_,
  λb i q=>by rw[aJ (c b _ q λz=>z)];exact q,λb u i q=>by rw[aJ (c b _ q λz=>z)];exact q,λb ps q=>⟨#[],by rw[aJ (c b _ q λz=>z),q];simp⟩⟩
 by_cases g:b=e
 .subst g;exact zv
 .exact⟨u,k b u g q⟩
end
noncomputable def HN(h:Heap)(H:Hp):List Addr:=(List.range h.objs.size).filter λa=>(H a).isSome
noncomputable def mW(h:Heap)(H:Hp):Heap:=PySem.W.hideAll h (HN h H)
def Ct(h:Heap)(H:Hp):(mW h H).objs.size=h.objs.size:=PySem.W.hideAll_size _ _
def Fd{h:Heap}{H:Hp}{b:Addr}{o:Obj}(e:h.get? b=some o)(n:H b=none):(mW h H).get? b=some o:=
 PySem.W.hideAll_get _ e λa=>by
  have q:(H b).isSome=true:=(List.mem_filter.mp a).2;rw[n]at q;simp at q
def JN{h:Heap}{H:Hp}{b:Addr}{o:Obj}(e:(mW h H).get? b=some o):h.get? b=some o/\H b=none:=by
 have a:h.get? b=some o:=PySem.W.of_hideAll (HN h H) e;refine⟨a,?_⟩;cases q:H b with
 |none=>rfl
 |some x=>
  have c:b∈HN h H:=List.mem_filter.mpr ⟨List.mem_range.mpr (aan a),by simp[q]⟩;have z:(mW h H).get? b=none:=PySem.W.hideAll_none (HN h H) c;rw[z]at e;cases e
noncomputable def JQ(g h:Heap)(L:Addr):List (Addr×Obj):=(List.range h.objs.size).filterMap λa=>if a=L\/(g.get? a).isSome=true then none else (h.get? a).map λo=>(a,o)
noncomputable def rest(g h:Heap)(L d:Addr):List (Addr×Obj):=(JQ g h L).filter λp=>decide (p.1≠d)
structure Mod(K:PySem.W.Frag)(mg:Str->Option Value)(base:Heap):Prop where
 HQ:K.In base
 glob:base.Ns mainGlobals mg
 blt:∃mb,base.Ns builtinsNs mb/\∀x:Str,x≠"__name__" ->mb x=bootBuiltins x
 nolimit:base.NoLimit
set_option genInjectivity true in
structure Cx where
 prog:Program
 w:World
 K:PySem.W.Frag
 mg:Str->Option Value
 base:Heap
 A:Around
 N:List Str
 s₀:Shared
 H₀:Hp
 env:Env
 outer:List Env
 stack:List Env
 ex:List Addr
 fn:Str->Bool
 calm:Bool
 pn:List (Addr×Obj)
 xe:Value->Shared->Prop
noncomputable def frs(l:List Env):List Addr:=l.filterMap (·.frame)
noncomputable abbrev Cx.fs(X:Cx):List Addr:=frs X.outer
def Cu(sc:Scope)(x:Str):Prop:=sc.names.lookup x=some .local\/sc.names.lookup x=some .cell\/sc.names.lookup x=some .free
def Loc(sc:Scope)(x:Str):Prop:=sc.names.lookup x=some .local\/sc.names.lookup x=some .cell
def Look(env:Env)(h:Heap)(m:Str->Option Value)(x:Str)(u:Value):Prop:=
 (env.kindOf x=some .local/\m x=some u)\/((env.kindOf x=some .cell\/env.kindOf x=some .free)/\∃c,env.cells.lookup x=some c/\h.IsCell c (some u))
structure Cx.Ok(X:Cx):Prop where
 mod:Mod X.K X.mg X.base
 kind:X.env.scope.kind=.function
 glob:X.env.globals=mainGlobals
 blt:X.env.builtins=builtinsNs
 above:X.s₀.heap.objs.size<=X.env.locals
 inj:∀x y c,X.env.cells.lookup x=some c->X.env.cells.lookup y=some c->x=y
 has:∀x,(X.env.kindOf x=some .cell\/X.env.kindOf x=some .free)->∃c,X.env.cells.lookup x=some c
 zw:∀x c,X.fn x=true->X.env.cells.lookup x=some c->X.s₀.heap.objs.size<=c
 hd:X.calm=true->X.A.handled=none
 frames:X.A.frames=some X.stack
 stk:X.stack=X.outer\/(X.stack=X.env :: X.outer/\X.env.frame=some X.env.locals)
 HS:∀b∈X.ex,b≠X.env.locals/\∀x c,X.env.cells.lookup x=some c->c≠b
 bs:∀b o,X.base.get? b=some o->X.s₀.heap.get? b=some o/\X.H₀ b=none
 t7:X.base.objs.size<=X.s₀.heap.objs.size
 sW:∀b o,X.base.get? b=some o->b∉X.ex
 sX:∀b∈X.ex,b∉X.fs
 jN:X.s₀.heap.FunFrames X.base X.outer
 vM:∀b∈X.fs,X.H₀ b=none
structure Inv(X:Cx)(pins:List (Addr×Obj))(σ:List (Option V))(H:Hp)(s:Shared):Prop where
 ok:X.Ok
 os:s.os=X.s₀.os
 bare:AllBare s.gens
 base:Un X.fs X.ex X.H₀ H X.s₀.heap s.heap
 loc:∃m,s.heap.Ns X.env.locals m/\∀(i:Nat) (x:Str) (v:V),X.N[i]?=some x->σ[i]?=some (some v)->Cu X.env.scope x->∃u,RelV v u/\Look X.env s.heap m x u
 cell:∀x c,X.env.cells.lookup x=some c->∃v,s.heap.IsCell c v
 free:H X.env.locals=none
 iQ:∀x c,X.env.cells.lookup x=some c->H c=none
 pin:∀p∈X.pn++pins,s.heap.get? p.1=some p.2/\H p.1=none/\p.1≠X.env.locals/\p.1∉X.fs/\∀v,p.2.data≠.cell v
 hok:fq X.prog X.w H s.heap
 len:σ.length=X.N.length
section
variable{X:Cx}{pins:List (Addr×Obj)}{σ:List (Option V)}{H H':Hp}{s:Shared}{h':Heap}
def Cx.Ok.V3(ok:X.Ok){b:Addr}{o:Obj}(e:X.base.get? b=some o):b∉X.fs:=λa=>by
 have:=(ok.jN.mem a).1;rw[e]at this;cases this
theorem Inv.bs(I:Inv X pins σ H s):∀b o,X.base.get? b=some o->s.heap.get? b=some o/\H b=none:=λb o e=>
 ⟨I.base.keep b o (I.ok.bs b o e).1 (I.ok.bs b o e).2 (I.ok.V3 e) (I.ok.sW b o e),I.base.free b o (I.ok.bs b o e).1 (I.ok.bs b o e).2 (I.ok.sW b o e)⟩
def Inv.bk(I:Inv X pins σ H s):∀b o,X.base.get? b=some o->s.heap.get? b=some o:=λb o e=>(I.bs b o e).1
theorem Inv.mod(I:Inv X pins σ H s):Mod X.K X.mg X.base:=I.ok.mod
def Inv.t8(I:Inv X pins σ H s):X.K.In s.heap:=I.ok.mod.HQ.keeps I.bk
theorem Inv.lt(I:Inv X pins σ H s):X.env.locals<s.heap.objs.size:=let ⟨_,hn,_⟩:=I.loc;hn.lt
def Inv.sz(I:Inv X pins σ H s):X.s₀.heap.objs.size<=s.heap.objs.size:=aas I.ok.above (acZ I.lt)
def Inv.V4(I:Inv X pins σ H s){a:Addr}(h:s.heap.objs.size<=a):a∉X.fs:=λb=>by
 obtain⟨_,o,c,_⟩:=I.ok.jN.mem b;exact absurd (aaa (aan c) (aas I.sz h)) (aaF _)
def Inv.vN(I:Inv X pins σ H s):∀x c,X.env.cells.lookup x=some c->c≠X.env.locals:=λx c e z=>by
 obtain⟨v,o,d,f⟩:=I.cell x c e;obtain⟨m,⟨g,h,i,a,b,_⟩,_⟩:=I.loc;rw[z,a]at d;cases d;rw[b]at f;cases f
theorem Inv.jN(I:Inv X pins σ H s):s.heap.FunFrames X.base X.outer:=by
 have all:∀(l:List Env),(∀b∈frs l,b∈X.fs)->X.s₀.heap.FunFrames X.base l->s.heap.FunFrames X.base l:=by
  intro l;induction l with
  |nil=>intro _ _;trivial
  |cons g r h=>
   intro f i;obtain⟨j,⟨L,o,a,p,q,x⟩,y⟩:=i;have c:L∈X.fs:=f L (by unfold frs;rw[aaP,a];exact aaC);obtain⟨A,e⟩:=I.base.slot L o q (I.ok.vM L c) c λz=>I.ok.sX L z c;exact⟨j,⟨L,_,a,p,e,x⟩,h (λb d=>f b (by unfold frs;rw[aaP,a];exact aap _ d)) y⟩
 exact all X.outer (λ_ d=>d) I.ok.jN
theorem Inv.stack(I:Inv X pins σ H s):s.heap.FunFrames X.base X.stack:=by
 rcases I.ok.stk with e|⟨e,a⟩
 .rw[e];exact I.jN
 .rw[e];obtain⟨m,b,_⟩:=I.loc;refine .cons (by rw[I.ok.kind];decide) a b ?_ I.jN;exact Heap.get?_none_of_le (aas I.ok.t7 I.ok.above)
def Inv.vO(I:Inv X pins σ H s):∀b∈frs X.stack,b∈X.env.locals :: X.fs:=λb a=>by
 rcases I.ok.stk with e|⟨e,c⟩
 .rw[e]at a;exact aap _ a
 .rw[e]at a;unfold frs at a;rw[aaP,c]at a;exact a
def Inv.zx(I:Inv X pins σ H s):∀b∈frs X.stack,H b=none:=λb a=>by
 rcases List.mem_cons.mp (I.vO b a)with e|a
 .rw[e];exact I.free
 .obtain⟨_,o,c,_⟩:=I.ok.jN.mem a;exact I.base.free b o c (I.ok.vM b a) λz=>I.ok.sX b z a
def Inv.step{g':Array GenState}{t':Nat}{d':Drawn}{ch:List Addr}(I:Inv X pins σ H s)
  (hch:∀b∈ch,(b∈X.ex\/X.s₀.heap.objs.size<=b)/\b≠X.env.locals/\(∀x c,X.env.cells.lookup x=some c->c≠b)/\∀p∈X.pn++pins,p.1≠b)
  (keep:∀b o,b≠X.env.locals->b∉X.fs->b∉ch->s.heap.get? b=some o->H b=none->h'.get? b=some o)
  (slot:∀b o,b≠X.env.locals->b∈X.fs->b∉ch->s.heap.get? b=some o->H b=none->∃sl,h'.get? b=some { o with slots:=sl }) (free:∀b o,b∉ch->s.heap.get? b=some o->H b=none->H' b=none)
  (there:∀b o,b∉ch->s.heap.get? b=some o->∃o',h'.get? b=some o')
  (tups:∀b xs,H b=some (.tup xs)->H' b=some (.tup xs)) (mV:∀b o u,H b=some (.bK o u)->H' b=some (.bK o u)) (om:∀b ps,H b=some (.vK ps)->∃more,H' b=some (.vK (ps++more)))
  (ns:∀m,s.heap.Ns X.env.locals m->h'.Ns X.env.locals m) (hok:fq X.prog X.w H' h') (hg:AllBare g') :
  Inv X pins σ H' { s with heap:=h',gens:=g',drawn:=d',toks:=t' }:=by
 have Uz:∀b o,X.s₀.heap.get? b=some o->b≠X.env.locals:=λb o e=>aaB (aaa (aan e) I.ok.above);have HU:∀b o,X.s₀.heap.get? b=some o->b∉X.ex->b∉ch:=λb o e a h=>by
  rcases(hch b h).1 with z|z
  .exact a z
  .exact absurd (aaa (aan e) z) (aaF _)
 have f:∀x c,X.env.cells.lookup x=some c->∀v,s.heap.IsCell c v->h'.IsCell c v:=λx c e v ⟨o,j,A⟩=>by
  have Cv:c∉ch:=λz=>(hch c z).2.2.1 x c e rfl;by_cases B:c∈X.fs
  .obtain⟨sl,q⟩:=slot c o (I.vN x c e) B Cv j (I.iQ x c e);exact⟨_,q,A⟩
  .exact⟨o,keep c o (I.vN x c e) B Cv j (I.iQ x c e),A⟩
 refine⟨I.ok,I.os,hg,⟨λb o e n h a=>?_,λb o e n h a=>?_,λb o e n a=>?_,λb o e a=>?_,λb xs e=>tups b xs (I.base.tups b xs e),λb o xs e=>mV b o xs (I.base.mV b o xs e),λb ps e=>?_⟩,?_,λx c e=>?_,?_,λx c e=>?_,λp C=>?_,hok,I.len⟩
 .exact keep b o (Uz b o e) h (HU b o e a) (I.base.keep b o e n h a) (I.base.free b o e n a)
 .obtain⟨sl,g⟩:=I.base.slot b o e n h a;obtain⟨Xn,y⟩:=slot b _ (Uz b o e) h (HU b o e a) g (I.base.free b o e n a);exact⟨Xn,y⟩
 .obtain⟨o',g⟩:=I.base.there b o e a;exact free b o' (HU b o e a) g (I.base.free b o e n a)
 .obtain⟨o',g⟩:=I.base.there b o e a;exact there b o' (HU b o e a) g
 .obtain⟨J,g⟩:=I.base.om b ps e;obtain⟨K,y⟩:=om b _ g;exact⟨J++K,by rw[y,Array.append_assoc]⟩
 .obtain⟨m,L,M⟩:=I.loc;refine⟨m,ns m L,λi x v g y N=>?_⟩;obtain⟨u,r,l⟩:=M i x v g y N;refine⟨u,r,?_⟩;rcases l with l|⟨k,c,e,z⟩
  .exact .inl l
  .exact .inr ⟨k,c,e,f x c e _ z⟩
 .obtain⟨v,z⟩:=I.cell x c e;exact⟨v,f x c e v z⟩
 .obtain⟨m,⟨o,_,_,j,_⟩,_⟩:=I.loc;exact free _ o (λz=>(hch _ z).2.1 rfl) j I.free
 .obtain⟨v,o,j,A⟩:=I.cell x c e;exact free c o (λz=>(hch c z).2.2.1 x c e rfl) j (I.iQ x c e)
 .obtain⟨e,n,F,G,d⟩:=I.pin p C;have Cv:p.1∉ch:=λz=>(hch p.1 z).2.2.2 p C rfl;exact⟨keep p.1 p.2 F G Cv e n,free p.1 p.2 Cv e n,F,G,d⟩
def Inv.un{t':Nat}(I:Inv X pins σ H s)(u:Un X.fs [] H H' s.heap h')(hok:fq X.prog X.w H' h'):Inv X pins σ H' { s with heap:=h',toks:=t' }:=by
 obtain⟨m,⟨o,j,l,f,r⟩,_⟩:=id I.loc;obtain⟨p,g⟩:=u.any f I.free (by simp);exact I.step (g':=s.gens) (d':=s.drawn) (ch:=[]) (λ_ z=>nomatch z) (λb o _ c _ e n=>u.keep b o e n c (by simp)) (λb o _ c _ e n=>u.slot b o e n c (by simp)) (λb o _ e n=>u.free b o e n (by simp)) (λb o _ e=>u.there b o e (by simp)) u.tups u.mV u.om (λq h=>by
  obtain⟨x,d,Mi,a,i⟩:=h;rw[f]at a;cases a;exact⟨_,d,Mi,g,i⟩) hok I.bare
def Inv.call{g':Array GenState}{t':Nat}{d':Drawn}{ch:List Addr}(I:Inv X pins σ H s)(u:Un (frs X.stack) ch H H' s.heap h')(hok:fq X.prog X.w H' h')(hg:AllBare g')
  (hch:∀b∈ch,(b∈X.ex\/X.s₀.heap.objs.size<=b)/\b≠X.env.locals/\(∀x c,X.env.cells.lookup x=some c->c≠b)/\∀p∈X.pn++pins,p.1≠b) :
  Inv X pins σ H' { s with heap:=h',gens:=g',drawn:=d',toks:=t' }:=by
 obtain⟨m,⟨o,q,y,h,r⟩,_⟩:=id I.loc;obtain⟨A,f⟩:=u.any h I.free λz=>(hch _ z).2.1 rfl;exact I.step (ch:=ch) hch (λb o f i a e n=>u.keep b o e n (λz=>(List.mem_cons.mp (I.vO b z)).elim f i) a) (λb o _ _ a e n=>u.any e n a) (λb o a e n=>u.free b o e n a) (λb o a e=>u.there b o e a) u.tups u.mV u.om (λB j=>by
  obtain⟨C,g,Mi,d,l⟩:=j;rw[h]at d;cases d;exact⟨_,g,Mi,f,l⟩) hok hg
def Inv.turned{t':Nat}{it:Addr}(I:Inv X pins σ H s)(k:∀b o,b≠it->s.heap.get? b=some o->h'.get? b=some o)(hn:H it=none)(hL:it≠X.env.locals)
  (h1:it∈X.ex\/X.s₀.heap.objs.size<=it) (h2:∀x c,X.env.cells.lookup x=some c->c≠it) (h3:∀p∈X.pn++pins,p.1≠it):Inv X pins σ H { s with heap:=h',toks:=t' }:=by
 have UA:∀b u,H b=some u->b≠it:=λb u e z=>by rw[z,hn]at e;cases e
 refine I.step (g':=s.gens) (d':=s.drawn) (ch:=[it]) (λb d=>?_) (λb o _ _ a e _=>k b o (λz=>a (by simp[z])) e) (λb o _ _ a e _=>⟨o.slots,k b o (λz=>a (by simp[z])) e⟩) (λ_ _ _ _ n=>n)
  (λb o a e=>⟨o,k b o (λz=>a (by simp[z])) e⟩) (λ_ _ e=>e) (λ_ _ _ e=>e) (λb ps e=>⟨#[],by rw[e];simp⟩) (λm f=>?_) (λb u e=>?_) I.bare
 .have e:b=it:=by simpa using d
  subst e;exact⟨h1,hL,h2,h3⟩
 .obtain⟨o,g,h,i,r⟩:=f;exact⟨o,g,h,k _ o (abk hL) i,r⟩
 .refine(I.hok b u e).stay (λc v a q=>k c v ?_ q) (λ_ q=>q) λ_ _ q=>q;rcases a with z|z
  .rw[z];exact UA b u e
  .exact UA c _ z
def Inv.tok(I:Inv X pins σ H s)(t:Nat):Inv X pins σ H { s with toks:=t }:=I.un (h':=s.heap) (t':=t) Un.refl I.hok
theorem Inv.kept{t':Nat}(I:Inv X pins σ H s)(k:∀b u,s.heap.get? b=some u->h'.get? b=some u):Inv X pins σ H { s with heap:=h',toks:=t' }:=I.un (Un.kept k) (I.hok.kept k)
theorem Inv.laid{a:Addr}{o:HO}{t':Nat}(I:Inv X pins σ H s)(k:∀b u,s.heap.get? b=some u->h'.get? b=some u)(hp:s.heap.objs.size<=a)(new:dJ X.prog X.w (upd H a o) h' a o) :
  Inv X pins σ (upd H a o) { s with heap:=h',toks:=t' }:=I.un (Un.laid k hp (I.hok.fresh hp)) (I.hok.laid k hp new)
theorem Inv.write{x e:Addr}{o:HO}{t':Nat}(I:Inv X pins σ H s)(mu:Cs (H x))(he:e=x\/H e=some (.own x))(k:∀b u,b≠e->s.heap.get? b=some u->h'.get? b=some u)(zv:∃u,h'.get? e=some u)
  (new:dJ X.prog X.w (upd H x o) h' x o):Inv X pins σ (upd H x o) { s with heap:=h',toks:=t' }:=I.un (Un.write mu he k zv) (I.hok.write mu he k zv new)
def Inv.zy{HV:List (Addr×Obj)}(I:Inv X pins σ H s)(h:∀p∈HV,s.heap.get? p.1=some p.2/\H p.1=none/\p.1≠X.env.locals/\p.1∉X.fs/\∀v,p.2.data≠.cell v):Inv X HV σ H s:=
 ⟨I.ok,I.os,I.bare,I.base,I.loc,I.cell,I.free,I.iQ,λp a=>(List.mem_append.mp a).elim (λz=>I.pin p (aaW _ z)) (h p),I.hok,I.len⟩
def vP{N:List Str}(hN:N.Nodup){i j:Nat}{x:Str}(a:N[i]?=some x)(b:N[j]?=some x):i=j:=by
 obtain⟨e,c⟩:=List.getElem?_eq_some_iff.mp a;obtain⟨f,d⟩:=List.getElem?_eq_some_iff.mp b;exact(List.getElem_inj hN).mp (c.trans d.symm)
def t9{M:Model}{A:Around}{E:Value->Shared->Prop}{i:Nat}{x:Str}{v:V}{u:Value}{Q:Unit->Shared->Prop}(I:Inv X pins σ H s)(hN:X.N.Nodup)(hi:X.N[i]?=some x)(hx:Loc X.env.scope x)(r:RelV v u)
  (h:∀s',Inv X pins (σ.set i (some v)) H s'->(∃a,Heap.SameBut a s.heap s'.heap/\(a=X.env.locals\/X.env.cells.lookup x=some a))->Q () s') (hf:autoParam (X.fn x=true\/X.env.scope.names.lookup x=some .local) zO._auto_1):wpAny M A (storeName X.env x u) Q E s:=by
 obtain⟨m,hn,hl⟩:=id I.loc;have P:(X.env.scope.kind==.class || (X.env.scope.kind==.module&&X.env.locals != X.env.globals))=false:=by rw[I.ok.kind];rfl
 have Mj:i<σ.length:=by rw[I.len];exact(List.getElem?_eq_some_iff.mp hi).1
 have vN:=I.vN;have g:∀{a:Addr} {h':Heap},(∃o,s.heap.get? a=some o/\H a=none)->Heap.SameBut a s.heap h'->fq X.prog X.w H h':=λ{a h'} ha f b ob e=>by
  obtain⟨_,_,C⟩:=ha;refine(I.hok b ob e).stay (λc w' B q=>(f.2 c ?_).trans q) (λ_ q=>q) λ_ _ q=>q;rintro rfl;rcases B with rfl|B
  .rw[C]at e;cases e
  .rw[C]at B;cases B
 rcases hx with G|G
 .refine wpAny_storeName_local G hn (λh' hn' f=>?_) P;obtain⟨oL,_,_,rA,_⟩:=id hn;refine h _ ⟨I.ok,I.os,I.bare,⟨λb o e n J hx=>?_,λb o e n J hx=>?_,I.base.free,λb o e hx=>?_,I.base.tups,I.base.mV,I.base.om⟩,⟨_,hn',λj y v' l F e3=>?_⟩,λy c e=>?_,I.free,I.iQ,λp hp=>?_,g ⟨oL,rA,I.free⟩ f,by simpa using I.len⟩ ⟨_,f,.inl rfl⟩
  .exact(f.2 b (aaB (aaa (aan e) I.ok.above))).trans (I.base.keep b o e n J hx)
  .obtain⟨sl,l⟩:=I.base.slot b o e n J hx;exact⟨sl,(f.2 b (aaB (aaa (aan e) I.ok.above))).trans l⟩
  .obtain⟨o',l⟩:=I.base.there b o e hx;exact⟨o',(f.2 b (aaB (aaa (aan e) I.ok.above))).trans l⟩
  .by_cases K:j=i
   .subst K;rw[hi]at l;cases l;rw[aad Mj]at F;cases F;exact⟨u,r,.inl ⟨G,by simp⟩⟩
   .rw[Uk (abk K)]at F;obtain⟨u',r',q⟩:=hl j y v' l F e3;refine⟨u',r',?_⟩;rcases q with ⟨k,e⟩|⟨k,c,e,z⟩
    .refine .inl ⟨k,?_⟩;have:y≠x:=λe=>K (vP hN l (e▸hi));simp[this,e]
    .exact .inr ⟨k,c,e,z.sameBut f (vN y c e)⟩
  .obtain⟨w',z⟩:=I.cell y c e;exact⟨w',z.sameBut f (vN y c e)⟩
  .obtain⟨e,n,ne,nf,d⟩:=I.pin p hp;exact⟨(f.2 p.1 ne).trans e,n,ne,nf,d⟩
 .have L:X.fn x=true:=by
   rcases hf with z|z
   .exact z
   .rw[z]at G;cases G
  obtain⟨c,B⟩:=I.ok.has x (.inl G);obtain⟨w',z⟩:=I.cell x c B;refine wpAny_storeName_cell I.ok.kind G B z (λh' W f=>?_);obtain⟨oc,Y,V5⟩:=id z;refine h { s with heap:=h' } ⟨I.ok,I.os,I.bare,⟨λb o e n J hx=>?_,λb o e n J hx=>?_,I.base.free,λb o e hx=>?_,I.base.tups,I.base.mV,I.base.om⟩,⟨m,hn.sameBut f (abk (vN x c B)),λj y v' l F e3=>?_⟩,λy c' e=>?_,I.free,I.iQ,λp hp=>?_,g ⟨oc,Y,I.iQ x c B⟩ f,by simpa using I.len⟩ ⟨c,f,.inr B⟩
  .exact(f.2 b (aaB (aaa (aan e) (I.ok.zw x c L B)))).trans (I.base.keep b o e n J hx)
  .obtain⟨sl,l⟩:=I.base.slot b o e n J hx;exact⟨sl,(f.2 b (aaB (aaa (aan e) (I.ok.zw x c L B)))).trans l⟩
  .obtain⟨o',l⟩:=I.base.there b o e hx;exact⟨o',(f.2 b (aaB (aaa (aan e) (I.ok.zw x c L B)))).trans l⟩
  .by_cases K:j=i
   .subst K;rw[hi]at l;cases l;rw[aad Mj]at F;cases F;exact⟨u,r,.inr ⟨.inl G,c,B,W⟩⟩
   .rw[Uk (abk K)]at F;obtain⟨u',r',q⟩:=hl j y v' l F e3;refine⟨u',r',?_⟩;rcases q with q|⟨k,c',e,z'⟩
    .exact .inl q
    .refine .inr ⟨k,c',e,z'.sameBut f ?_⟩;rintro rfl;exact K (vP hN l (I.ok.inj _ _ _ e B▸hi))
  .by_cases Z:c'=c
   .subst Z;exact⟨_,W⟩
   .obtain⟨w2,z2⟩:=I.cell y c' e;exact⟨w2,z2.sameBut f Z⟩
  .obtain⟨e,n,ne,nf,d⟩:=I.pin p hp;refine⟨(f.2 p.1 ?_).trans e,n,ne,nf,d⟩;intro q;rw[q,Y]at e;have q':oc=p.2:=W0 e;exact d w' (by rw[<-q'];exact V5)
def vQ{M:Model}{A:Around}{E:Value->Shared->Prop}{i:Nat}{x:Str}{v:V}{u:Value}{Q:Unit->Shared->Prop}(I:Inv X pins σ H s)(hN:X.N.Nodup)(hi:X.N[i]?=some x)(hx:Loc X.env.scope x)(r:RelV v u)
  (h:∀s',Inv X pins (σ.set i (some v)) H s'->Q () s') (hf:autoParam (X.fn x=true\/X.env.scope.names.lookup x=some .local) zO._auto_1):wpAny M A (storeName X.env x u) Q E s:=
 t9 I hN hi hx r (λs' I' _=>h s' I') hf
def Inv.Sj{s':Shared}{ch:List Addr}(I:Inv X pins σ H s)(ho:s'.os=s.os)(u:Un (frs X.stack) ch H H' s.heap s'.heap)(hok:fq X.prog X.w H' s'.heap)(hg:AllBare s'.gens)
  (hch:∀b∈ch,(b∈X.ex\/X.s₀.heap.objs.size<=b)/\b≠X.env.locals/\(∀x c,X.env.cells.lookup x=some c->c≠b)/\∀p∈X.pn++pins,p.1≠b):Inv X pins σ H' s':=by
 obtain⟨h',g',d',t',a⟩:=s';have e:a=s.os:=ho;subst e;exact I.call (g':=g') (t':=t') (d':=d') u hok hg hch
end
abbrev XK:=Value->Option Addr->Hp->Prop
abbrev St:=List (Option V)
abbrev VK:=V->Hp->Prop
abbrev TE:=St->Hp->VK->Prop
abbrev TT:=St->Hp->(Bool->Hp->Prop)->Prop
abbrev TA:=St->Hp->(List V->Hp->Prop)->Prop
structure Ends where
 nx:St->Hp->Prop
 rt:VK
 bk:St->Hp->Prop:=λ_ _=>False
 ct:St->Hp->Prop:=λ_ _=>False
abbrev TS:=Ends->St->Hp->Prop
def EP(X:Cx)(pins:List (Addr×Obj))(σ:St)(Q:VK)(u:Value)(s':Shared):Prop:=∃v H',Inv X pins σ H' s'/\RelV v u/\Q v H'
def TP(X:Cx)(pins:List (Addr×Obj))(σ:St)(Q:Bool->Hp->Prop)(b:Bool)(s':Shared):Prop:=∃H',Inv X pins σ H' s'/\Q b H'
def AP(X:Cx)(pins:List (Addr×Obj))(σ:St)(Q:List V->Hp->Prop)(us:List Value)(s':Shared):Prop:=∃vs H',Inv X pins σ H' s'/\Vals vs us/\Q vs H'
def SP(X:Cx)(pins:List (Addr×Obj))(D:Ends)(f:Flow)(s':Shared):Prop:=
 match f with
 |.next=>∃σ' H',Inv X pins σ' H' s'/\D.nx σ' H'
 |.brk=>∃σ' H',Inv X pins σ' H' s'/\D.bk σ' H'
 |.cont=>∃σ' H',Inv X pins σ' H' s'/\D.ct σ' H'
 |.ret u=>∃v σ' H',Inv X pins σ' H' s'/\RelV v u/\D.rt v H'
def PE(X:Cx)(e:Expr)(t:TE):Prop:=
 ∀(pins:List (Addr×Obj)) (s:Shared) (σ:St) (H:Hp) (Q:VK),Inv X pins σ H s->t σ H Q->wpAny (model X.prog X.w) X.A (eval e X.env) (EP X pins σ Q) X.xe s
def PT(X:Cx)(e:Expr)(t:TT):Prop:=
 ∀(pins:List (Addr×Obj)) (s:Shared) (σ:St) (H:Hp) (Q:Bool->Hp->Prop),Inv X pins σ H s->t σ H Q->wpAny (model X.prog X.w) X.A (isTrue e X.env (eval e X.env)) (TP X pins σ Q) X.xe s
def PW(X:Cx)(e:Expr)(t:TT):Prop:=
 ∀(whole:Sem Value) (pins:List (Addr×Obj)) (s:Shared) (σ:St) (H:Hp) (Q:Bool->Hp->Prop),Inv X pins σ H s->t σ H Q->wpAny (model X.prog X.w) X.A (isTrue e X.env whole) (TP X pins σ Q) X.xe s
def PW.pt{X:Cx}{e:Expr}{t:TT}(h:PW X e t):PT X e t:=h _
def PA(X:Cx)(es:List Expr)(t:TA):Prop:=
 ∀(pos:Pos) (pins:List (Addr×Obj)) (s:Shared) (σ:St) (H:Hp) (Q:List V->Hp->Prop),Inv X pins σ H s->t σ H Q->wpAny (model X.prog X.w) X.A (spliced (backTo pos (starEach es X.env))) (AP X pins σ Q) X.xe s
def PS(X:Cx)(st:Stmt)(t:TS):Prop:=
 ∀(pins:List (Addr×Obj)) (s:Shared) (σ:St) (H:Hp) (D:Ends),Inv X pins σ H s->t D σ H->wpAny (model X.prog X.w) X.A (exec st X.env) (SP X pins D) X.xe s
def ji(X:Cx)(st:List Stmt)(t:TS):Prop:=
 ∀(pins:List (Addr×Obj)) (s:Shared) (σ:St) (H:Hp) (D:Ends),Inv X pins σ H s->t D σ H->wpAny (model X.prog X.w) X.A (execs st X.env) (SP X pins D) X.xe s
def bQ{α:Type}{t:Sem α}{Q Q':α->Shared->Prop}{M:Model}{A:Around}{E:Value->Shared->Prop}{s:Shared}(h:wpAny M A t Q E s)(hQ:∀a s,Q a s->Q' a s):wpAny M A t Q' E s:=aa6 h hQ λ_ _ x=>x
section
variable{X:Cx}
def bin{a b:Expr}{ta tb:TE}(ha:PE X a ta)(hb:PE X b tb){pins:List (Addr×Obj)}{s:Shared}{σ:St}{H:Hp}{R:V->V->Hp->Prop}(I:Inv X pins σ H s)(h:ta σ H λx H1=>tb σ H1 λy H2=>R x y H2)
  {α:Type} {Q:α->Shared->Prop} {f:Value->Value->Sem α}
  (hf:∀v u s2 x y H2,Inv X pins σ H2 s2->RelV x v->RelV y u->R x y H2->wpAny (model X.prog X.w) X.A (f v u) Q X.xe s2) :
  wpAny (model X.prog X.w) X.A (eval a X.env) (λv s₁=>wpAny (model X.prog X.w) X.A (eval b X.env) (λu s₂=>wpAny (model X.prog X.w) X.A (f v u) Q X.xe s₂) X.xe s₁) X.xe s:=by
 refine bQ (ha pins s σ H _ I h) λv s1 zr=>?_;obtain⟨x,H1,I1,c,d⟩:=zr;refine bQ (hb pins s1 σ H1 _ I1 d) λu s2 zr=>?_;obtain⟨y,H2,I2,e,g⟩:=zr;exact hf v u s2 x y H2 I2 c e g
noncomputable def Mk(i:Nat):TE:=λσ H Q=>∃v,σ[i]?=some (some v)/\Q v H
noncomputable def tC(v:V):TE:=λ_ H Q=>Q v H
def Cw {i:Nat}{x:Str}{pos:Pos}(hN:X.N[i]?=some x) (hv:Cu X.env.scope x) (hd:autoParam ((x==("__debug__" : Str))=false) zP._auto_1) (hcd:autoParam ((x==("__classdict__" : Str))=false) zP._auto_1):PE X (.Name x pos) (Mk i):=by
 intro d s σ H Q I h;obtain⟨v,e,h⟩:=h;obtain⟨m,g,j⟩:=I.loc;obtain⟨u,r,l⟩:=j i x v hN e hv;have fin:EP X d σ Q u s:=⟨v,H,I,r,h⟩
 rcases l with ⟨b,o⟩|⟨b,c,f,a⟩
 .exact wpAny_Name (wpAny_loadName_local I.ok.kind b g o fin) hd
 .rcases b with b|b
  .exact wpAny_Name (wpAny_loadName_cell I.ok.kind b f a fin) hd
  .exact wpAny_Name (wpAny_loadName_free I.ok.kind b f a fin hcd) hd
def Ml{i j pos}:PE X (.Constant (.int i) j pos) (tC (.int i)):=λ_ _ _ H _ I h=>wpAny_Constant_int ⟨.int i,H,I.tok _,⟨_,rfl⟩,h⟩
def Sk{b j pos}:PE X (.Constant (.bool b) j pos) (tC (.bl b)):=λ_ _ _ H _ I h=>Constant_bool ⟨.bl b,H,I,rfl,h⟩
def Mm{j pos}:PE X (.Constant .none j pos) (tC .aD):=λ_ _ _ H _ I h=>Constant_none ⟨.aD,H,I,rfl,h⟩
def vR{x j pos}:PE X (.Constant (.str x) j pos) (tC (.str x)):=λ_ _ _ H _ I h=>Calls.Constant_str ⟨.str x,H,I.tok _,⟨_,rfl⟩,h⟩
def Gl(X:Cx)(x:Str):Prop:=X.env.kindOf x=some .globalImplicit
def JR{E:Value->Shared->Prop}{pins:List (Addr×Obj)}{s:Shared}{σ:St}{H:Hp}{x:Str}{u:Value}{pos:Pos}{Q:Value->Shared->Prop}(I:Inv X pins σ H s)(hg:Gl X x)(hm:X.mg x=some u)(h:Q u s)
  (hd:autoParam ((x==("__debug__" : Str))=false) zP._auto_1):wpAny (model X.prog X.w) X.A (eval (.Name x pos) X.env) Q E s:=
 acf I.ok.kind hg (Calls.loadGlobal_global (by rw[I.ok.glob];exact I.mod.glob.keeps I.bk) hm h) hd
def kj{E:Value->Shared->Prop}{pins:List (Addr×Obj)}{s:Shared}{σ:St}{H:Hp}{x:Str}{u:Value}{pos:Pos}{Q:Value->Shared->Prop}(I:Inv X pins σ H s)(hg:Gl X x)(hm:X.mg x=none)(hv:bootBuiltins x=some u)(h:Q u s)
  (hn:autoParam (x≠"__name__" ) zP._auto_1) (hd:autoParam ((x==("__debug__" : Str))=false) zP._auto_1):wpAny (model X.prog X.w) X.A (eval (.Name x pos) X.env) Q E s:=by
 obtain⟨c,a,b⟩:=I.mod.blt;exact acf I.ok.kind hg (Calls.loadGlobal_builtin (by rw[I.ok.glob];exact I.mod.glob.keeps I.bk) hm (by rw[I.ok.blt];exact a.keeps I.bk) ((b x hn).trans hv) h) hd
variable{a b:Expr}{ta tb:TE}{pos:Pos}
variable{tA HW:TT}{rest:List Expr}
noncomputable def V6(t u:TT):TT:=λσ H Q=>t σ H λc H1=>if c=true then u σ H1 Q else Q false H1
noncomputable def Xo(t u:TT):TT:=λσ H Q=>t σ H λc H1=>if c=true then Q true H1 else u σ H1 Q
noncomputable def V7(t:TT):TT:=λσ H Q=>t σ H λc H1=>Q (!c) H1
def JU(ha:PT X a tA):PW X (.BoolOp .And [a] pos) tA:=by
 intro f d s σ H Q I h;refine isTrue_and (bQ (ha d s σ H Q I h) λc s1 e=>?_);cases c with
 |true=>exact isTrue_and_nil e
 |false=>exact e
def Mn(ha:PT X a tA):PW X (.BoolOp .Or [a] pos) tA:=by
 intro f d s σ H Q I h;refine isTrue_or (bQ (ha d s σ H Q I h) λc s1 e=>?_);cases c with
 |false=>exact isTrue_or_nil e
 |true=>exact e
def Mp(ha:PT X a tA)(hb:PW X (.BoolOp .And (b :: rest) pos) HW):PW X (.BoolOp .And (a :: b :: rest) pos) (V6 tA HW):=by
 intro f d s σ H Q I h;refine isTrue_and (bQ (ha d s σ H _ I h) λc s1 zr=>?_);obtain⟨H1,I1,e⟩:=zr;cases c with
 |true=>exact hb f d s1 σ H1 Q I1 e
 |false=>exact⟨H1,I1,e⟩
def Sn(ha:PT X a tA)(hb:PW X (.BoolOp .Or (b :: rest) pos) HW):PW X (.BoolOp .Or (a :: b :: rest) pos) (Xo tA HW):=by
 intro f d s σ H Q I h;refine isTrue_or (bQ (ha d s σ H _ I h) λc s1 zr=>?_);obtain⟨H1,I1,e⟩:=zr;cases c with
 |true=>exact⟨H1,I1,e⟩
 |false=>exact hb f d s1 σ H1 Q I1 e
def Mq(ha:PT X a tA):PT X (.UnaryOp .Not a pos) (V7 tA):=by
 intro d s σ H Q I h;exact isTrue_not (ha d s σ H (λc H1=>Q (!c) H1) I h)
noncomputable def Xp(t:TT)(ta tb:TE):TE:=λσ H Q=>t σ H λc H1=>if c=true then ta σ H1 Q else tb σ H1 Q
def Fe{c:Expr}(hc:PT X c tA)(ha:PE X a ta)(hb:PE X b tb):PE X (.IfExp c a b pos) (Xp tA ta tb):=by
 intro e s σ H Q I h;refine wpAny_IfExp (bQ (hc e s σ H _ I h) λd s1 zr=>?_);obtain⟨H1,I1,f⟩:=zr;cases d with
 |true=>exact ha e s1 σ H1 Q I1 f
 |false=>exact hb e s1 σ H1 Q I1 f
end
def fQ(K:PySem.W.Frag)(H:Hp)(a:Addr)(xs:List V):Prop:=
 Rd H a (.lst xs)\/
  ∃(o:Obj) (its:Array Value) (n:Nat),K.lookup a=some o/\o.cls=.type "list" /\o.dict=none/\o.data=.seq its n/\its.size<=sizeLine/\Vals xs its.toList
def dQ(K:PySem.W.Frag)(H:Hp)(a:Addr)(xs:List V):Prop:=
 Rd H a (.tup xs)\/
  ∃(o:Obj) (its:Array Value) (n:Nat),K.lookup a=some o/\o.cls=.type "tuple" /\o.data=.seq its n/\its.size<=sizeLine/\Vals xs its.toList
noncomputable def V8:Value->Option V
 |.none=>some .aD
 |.bool b=>some (.bl b)
 |.int i _=>some (.int i)
 |.str x _=>some (.str x)
 |.bytes b _=>some (.Cr b)
 |.float b _=>some (.Mg b)
 |.ref a=>some (.ref a)
 |.type n=>some (.ty n)
 |_=>none
def RelV.abs{x:V}{u:Value}(r:RelV x u):V8 u=some x:=by
 cases x with
 |aD=>cases r;rfl
 |bl _=>cases r;rfl
 |int _=>obtain⟨t,rfl⟩:=r;rfl
 |str _=>obtain⟨t,rfl⟩:=r;rfl
 |Cr _=>obtain⟨t,rfl⟩:=r;rfl
 |Mg _=>obtain⟨t,rfl⟩:=r;rfl
 |ref _=>cases r;rfl
 |ty _=>cases r;rfl
theorem RelV.inj{x y:V}{u:Value}(r:RelV x u)(q:RelV y u):x=y:=W0 (r.abs.symm.trans q.abs)
theorem Vals.inj:∀{xs ys:List V}{us:List Value},Vals xs us->Vals ys us->xs=ys
 |_,_,_,.nil,.nil=>rfl
 |_,_,_,.cons r t,.cons r' t'=>by rw[r.inj r',Vals.inj t t']
section
variable{X:Cx}{pins:List (Addr×Obj)}{σ:St}{H:Hp}{s:Shared}{a:Addr}{xs ys:List V}
def fQ.of{K:PySem.W.Frag}(h:H a=some (.lst xs)):fQ K H a xs:=.inl (.inl h)
def dQ.of{K:PySem.W.Frag}(h:H a=some (.tup xs)):dQ K H a xs:=.inl (.inl h)
def Inv.list(I:Inv X pins σ H s)(h:fQ X.K H a xs):∃its:List Value,Vals xs its/\PlainL s.heap a its.toArray/\xs.length<=sizeLine:=by
 rcases h with h|⟨o,its,n,b,c,d,f,g,r⟩
 .obtain⟨z,its,n,r,e⟩:=h.ok I.hok;exact⟨its,r,⟨_,n,e,rfl,rfl,rfl⟩,z⟩
 .refine⟨its.toList,r,⟨o,n,I.t8 a o b,c,d,by simpa using f⟩,?_⟩;have e:=r.length;simp only[abE]at e;omega
def Inv.tuple(I:Inv X pins σ H s)(h:dQ X.K H a xs):∃its:List Value,Vals xs its/\IsTup s.heap a its.toArray/\xs.length<=sizeLine:=by
 rcases h with h|⟨o,its,n,b,c,d,f,r⟩
 .obtain⟨z,its,r,p⟩:=h.ok I.hok;exact⟨its,r,p,z⟩
 .refine⟨its.toList,r,⟨o,I.t8 a o b,c,n,by simpa using d⟩,?_⟩;have e:=r.length;simp only[abE]at e;omega
def Inv.Ff(I:Inv X pins σ H s)(h:fQ X.K H a xs)(h':fQ X.K H a ys):xs=ys:=by
 obtain⟨c,r,⟨o,n,e,_,_,d⟩,_⟩:=I.list h;obtain⟨b,i,⟨l,p,f,_,_,g⟩,_⟩:=I.list h';rw[e]at f;cases f;rw[d]at g;injection g with j _
 have:c=b:=by simpa using aau Array.toList j
 subst this;exact r.inj i
def Inv.oA(I:Inv X pins σ H s)(h:dQ X.K H a xs)(h':dQ X.K H a ys):xs=ys:=by
 obtain⟨c,r,⟨o,e,_,n,d⟩,_⟩:=I.tuple h;obtain⟨b,i,⟨l,f,_,p,g⟩,_⟩:=I.tuple h';rw[e]at f;cases f;rw[d]at g;injection g with j _
 have:c=b:=by simpa using aau Array.toList j
 subst this;exact r.inj i
end
abbrev Cx.lR(X:Cx)(E:Value->Shared->Prop):Cx:={ X with xe:=E }
abbrev Cx.ua(X:Cx):Cx:=X.lR λ_ _=>False
theorem Cx.Ok.lR{X:Cx}(ok:X.Ok)(E:Value->Shared->Prop):(X.lR E).Ok:=
 ⟨ok.mod,ok.kind,ok.glob,ok.blt,ok.above,ok.inj,ok.has,ok.zw,ok.hd,ok.frames,ok.stk,ok.HS,ok.bs,ok.t7,ok.sW,ok.sX,ok.jN,ok.vM⟩
def Cx.Ok.jC{X:Cx}{E:Value->Shared->Prop}(ok:(X.lR E).Ok):X.Ok:=
 ⟨ok.mod,ok.kind,ok.glob,ok.blt,ok.above,ok.inj,ok.has,ok.zw,ok.hd,ok.frames,ok.stk,ok.HS,ok.bs,ok.t7,ok.sW,ok.sX,ok.jN,ok.vM⟩
section
variable{X:Cx}{pins:List (Addr×Obj)}{σ:St}{H:Hp}{s:Shared}{E:Value->Shared->Prop}
theorem Inv.lR(I:Inv X pins σ H s)(E:Value->Shared->Prop):Inv (X.lR E) pins σ H s:=⟨I.ok.lR E,I.os,I.bare,I.base,I.loc,I.cell,I.free,I.iQ,I.pin,I.hok,I.len⟩
theorem Inv.jC(I:Inv (X.lR E) pins σ H s):Inv X pins σ H s:=⟨I.ok.jC,I.os,I.bare,I.base,I.loc,I.cell,I.free,I.iQ,I.pin,I.hok,I.len⟩
theorem SP.jC{D:Ends}{f:Flow}{s':Shared}(h:SP (X.lR E) pins D f s'):SP X pins D f s':=by
 cases f with
 |next=>obtain⟨a,H',I,q⟩:=h;exact⟨a,H',I.jC,q⟩
 |brk=>obtain⟨a,H',I,q⟩:=h;exact⟨a,H',I.jC,q⟩
 |cont=>obtain⟨a,H',I,q⟩:=h;exact⟨a,H',I.jC,q⟩
 |ret u=>obtain⟨v,a,H',I,r,q⟩:=h;exact⟨v,a,H',I.jC,r,q⟩
theorem ji.ua{st:List Stmt}{t:TS}(h:ji X.ua st t):ji X st t:=λpins s σ H D I hw=>
 aa6 (h pins s σ H D (I.lR _) hw) (λ_ _ q=>q.jC) λ_ _ z=>False.elim z
end
section
variable{X:Cx}{st:Stmt}{rest:List Stmt}{t u:TS}{e:Expr}{te:TE}{pos:Pos}
noncomputable def So:TS:=λD σ H=>D.nx σ H
noncomputable def V9(t u:TS):TS:=λD σ H=>t { D with nx:=u D } σ H
def JV:ji X [] So:=λ_ _ σ H _ I h=>acB ⟨σ,H,I,h⟩
def Fi(h1:PS X st t)(h2:ji X rest u):ji X (st :: rest) (V9 t u):=by
 intro a s σ H D I h;refine wpAny_execs_cons (bQ (h1 a s σ H { D with nx:=u D } I h) λf s1 q=>?_);cases f with
 |next=>
  obtain⟨b,H',I',q⟩:=q;exact h2 a s1 b H' D I' q
 |ret v=>exact q
 |brk=>exact q
 |cont=>exact q
noncomputable def Sq:TS:=λD σ H=>D.ct σ H
def ze:PS X (.Continue pos) Sq:=λ_ _ σ H _ I h=>wpAny_Continue ⟨σ,H,I,h⟩
def Inv.quiet{pins:List (Addr×Obj)}{σ:St}{H:Hp}{s:Shared}(I:Inv X pins σ H s):interactive X.env=false:=by simp[interactive,I.ok.kind]
noncomputable def Su(te:TE):TS:=λD σ H=>te σ H λ_ H1=>D.nx σ H1
def JX(he:PE X e te)(hs:autoParam (swapsWith e none pos.line X.env=pure false) zb._auto_1):PS X (.Expr e pos) (Su te):=by
 intro a s σ H D I h;exact wpAny_Expr_any (bQ (he a s σ H _ I h) λv s1 ⟨x,H1,I1,c,b⟩=>⟨σ,H1,I1,b⟩) I.quiet hs
noncomputable def Wa(te:TE):TS:=λD σ H=>te σ H D.rt
def Mr(he:PE X e te):PS X (.Return (some e) pos) (Wa te):=by
 intro a s σ H D I h;exact wpAny_Return_some (bQ (he a s σ H _ I h) λv s1 ⟨x,H1,I1,b,c⟩=>⟨x,σ,H1,I1,b,c⟩)
noncomputable def Wb(c:TT)(t u:TS):TS:=λD σ H=>c σ H λb H1=>if b=true then t D σ H1 else u D σ H1
def Sv{c:Expr}{a b:List Stmt}{tc:TT}(hc:PT X c tc)(ha:ji X a t)(hb:ji X b u):PS X (.If c a b pos) (Wb tc t u):=by
 intro f s σ H D I h;refine wpAny_If (bQ (hc f s σ H _ I h) λd s1 zr=>?_);obtain⟨H1,I1,g⟩:=zr;cases d with
 |true=>exact ha f s1 σ H1 D I1 g
 |false=>exact hb f s1 σ H1 D I1 g
noncomputable def Ms:TS:=λ_ _ _=>False
def Fj:PS X st Ms:=λ_ _ _ _ _ _ h=>h.elim
end
abbrev TG:=V->St->Hp->(St->Hp->Prop)->Prop
abbrev uc:=List V->St->Hp->(St->Hp->Prop)->Prop
def PG(X:Cx)(target:Expr)(t:TG):Prop:=
 ∀(pins:List (Addr×Obj)) (s:Shared) (σ:St) (H:Hp) (v:V) (u:Value) (Q:St->Hp->Prop),Inv X pins σ H s->RelV v u->t v σ H Q->
  wpAny (model X.prog X.w) X.A (assign target X.env u) (λ_ a=>∃σ' H',Inv X pins σ' H' a/\Q σ' H') X.xe s
def qo(X:Cx)(ts:List Expr)(t:uc):Prop:=
 ∀(pins:List (Addr×Obj)) (s:Shared) (σ:St) (H:Hp) (vs:List V) (us:List Value) (Q:St->Hp->Prop),Inv X pins σ H s->Vals vs us->t vs σ H Q->
  wpAny (model X.prog X.w) X.A (assignInOrder ((assignEach ts X.env).map (·.2)) us) (λ_ a=>∃σ' H',Inv X pins σ' H' a/\Q σ' H') X.xe s
section
variable{X:Cx}{pos:Pos}
noncomputable def HX(i:Nat):TG:=λv σ H Q=>Q (σ.set i (some v)) H
def zz{i:Nat}{x:Str}(hN:X.N.Nodup)(hi:X.N[i]?=some x)(hx:Loc X.env.scope x)(hf:autoParam (X.fn x=true\/X.env.scope.names.lookup x=some .local) zO._auto_1):PG X (.Name x pos) (HX i):=by
 intro a s σ H v u Q I r h;exact wpAny_assign_Name (vQ I hN hi hx r (λb I'=>⟨_,H,I',h⟩) hf)
noncomputable def Wc:uc:=λvs σ H Q=>vs=[]/\Q σ H
noncomputable def Sw(t:TG)(u:uc):uc:=λvs σ H Q=>∃v r,vs=v :: r/\t v σ H λσ' H'=>u r σ' H' Q
def JY:qo X [] Wc:=by
 intro a s σ H vs us Q I r h;obtain⟨e,h⟩:=h;subst e;cases r;exact assignInOrder_nil ⟨σ,H,I,h⟩
def Fp{e:Expr}{es:List Expr}{t:TG}{u:uc}(h1:PG X e t)(h2:qo X es u)
  (hs:autoParam ((assignEach (e :: es) X.env).map (·.2)=assign e X.env :: (assignEach es X.env).map (·.2)) zb._auto_1):qo X (e :: es) (Sw t u):=by
 intro a s σ H vs us Q I r h;obtain⟨v,d,b,h⟩:=h;subst b;cases r with
 |cons r c=>
  rw[hs];refine assignInOrder_cons (bQ (h1 a s σ H _ _ _ I r h) λ_ s1 zr=>?_);obtain⟨σ1,H1,I1,q1⟩:=zr;exact h2 a s1 σ1 H1 _ _ Q I1 c q1
noncomputable def Wd(K:PySem.W.Frag)(n:Nat)(t:uc):TG:=λv σ H Q=>∃a xs,v=.ref a/\dQ K H a xs/\xs.length=n/\t xs σ H Q
def Mt{es:List Expr}{k:Nat}{t:uc}{n:Nat}(hc:X.calm=true)(h:qo X es t)
  (hn:autoParam ((assignEach es X.env).length=n) zb._auto_1) (hst:autoParam ((assignEach es X.env).findIdx? (·.1)=none) zb._auto_1):PG X (.Tuple es k pos) (Wd X.K n t):=by
 intro c s σ H v u Q I r d;obtain⟨a,f,g,i,j,d⟩:=d;subst g;cases r;obtain⟨l,rv,p,y⟩:=I.tuple i;refine assign_Tuple_tuple (I.ok.hd hc) p (by simp[hn,<-j,rv.length]) hst λq x=>?_;have I1:Inv X c σ H { s with heap:=q }:=I.kept (t':=s.toks) λb o e=>x b o (aaB (aan e)) e;exact h c _ σ H f _ Q I1 (by simpa using rv) d
noncomputable def We(te:TE)(g:TG):TS:=λD σ H=>te σ H λx H1=>g x σ H1 D.nx
def rB{i:Nat}{x:Str}{e:Expr}{te:TE}{pos':Pos}(hN:X.N.Nodup)(hi:X.N[i]?=some x)(hx:Loc X.env.scope x)(he:PE X e te)(hs:autoParam (swapsWith e (some (.Name x pos')) pos.line X.env=pure false) zb._auto_1)(hf:autoParam (X.fn x=true\/X.env.scope.names.lookup x=some .local) zO._auto_1) :
  PS X (.Assign [.Name x pos'] e pos) (We te (HX i)):=by
 intro a s σ H D I h;refine wpAny_Assign_Name (bQ (he a s σ H _ I h) λv s1 zr=>?_) hs;obtain⟨y,H1,I1,b,c⟩:=zr;exact vQ I1 hN hi hx b (λs2 I2=>⟨_,H1,I2,c⟩) hf
end
section
variable{X:Cx}{pos:Pos}
noncomputable def Mu(c:TT)(tb:TS):TS:=λD σ H=>∃W:Nat->St->Hp->Prop,(∃m,W m σ H)/\∀m σ H,W m σ H->
 c σ H λb H1=>if b=true then ∃N:St->Hp->Prop,(∀σ' H',N σ' H'->∃m',m'<m/\W m' σ' H')/\tb { D with nx:=N,ct:=N,bk:=D.nx } σ H1 else D.nx σ H1
def Fq{c:Expr}{body:List Stmt}{tc:TT}{tb:TS}(hp:PassesOwn (model X.prog X.w) X.A X.env X.xe)(hc:PT X c tc)(hb:ji X body tb):PS X (.While c body [] pos) (Mu tc tb):=by
 intro a s σ H D I h;obtain⟨W,⟨q,r⟩,d⟩:=h;refine wpAny_While (codeAny_whileLoop (λn x=>∃σ' H',Inv X a σ' H' x/\W n σ' H') ?_ q ⟨σ,H,I,r⟩);rintro n s1 ⟨σ1,H1,I1,w1⟩;refine abd hp (bQ (hc a s1 σ1 H1 _ I1 (d n σ1 H1 w1)) λb s2 zr=>?_);obtain⟨H2,I2,g⟩:=zr;cases b with
 |true=>
  obtain⟨N,p,g⟩:=g;rw[LV rfl];refine abd hp (bQ (hb a s2 σ1 H2 _ I2 g) λf s3 i=>?_);cases f with
  |next=>
   obtain⟨e,H3,I3,n3⟩:=i;obtain⟨j,l,o⟩:=p e H3 n3;exact⟨j,l,e,H3,I3,o⟩
  |cont=>
   obtain⟨e,H3,I3,n3⟩:=i;obtain⟨j,l,o⟩:=p e H3 n3;exact⟨j,l,e,H3,I3,o⟩
  |brk=>exact i
  |ret v=>exact i
 |false=>
  rw[aaj abb];exact acB ⟨σ1,H2,I2,g⟩
end
structure It where
 go:Nat->Hp->Prop
 HY:Nat->Hp->V->Hp->Prop
 stop:Nat->Hp->Prop
def iR(X:Cx)(pins:List (Addr×Obj))(H:Hp)(b:Addr):Prop:=
 H b=none/\b≠X.env.locals/\b∉X.fs/\(b∈X.ex\/X.s₀.heap.objs.size<=b)/\(∀x c,X.env.cells.lookup x=some c->c≠b)/\∀p∈X.pn++pins,p.1≠b
def Inv.Ba{X:Cx}{pins:List (Addr×Obj)}{σ:St}{H H':Hp}{s:Shared}{b:Addr}(I:Inv X pins σ H s)(hb:s.heap.objs.size<=b)(hn:H' b=none):iR X pins H' b:=by
 refine⟨hn,acY (aaa I.lt hb),I.V4 hb,.inr (aas I.sz hb),λx c e z=>?_,λp a z=>?_⟩
 .obtain⟨v,q⟩:=I.cell x c e;exact absurd (aaa q.lt (by rw[z];exact hb)) (aaF _)
 .exact absurd (aaa (aan (I.pin p a).1) (by rw[z];exact hb)) (aaF _)
structure Turn(P:Program)(w:World)(K:PySem.W.Frag)(tg:Expr)(J:It)(fp:List Addr)(it:Addr)(tn:Nat->Heap->Prop):Prop where
 mem:it∈fp
 obj:∀i h,tn i h->∀b∈fp,∃o,h.get? b=some o/\∀v,o.data≠.cell v
 keep:∀i h h',tn i h->(∀b∈fp,∀o,h.get? b=some o->h'.get? b=some o)->tn i h'
 item:∀(X:Cx),X.prog=P->X.w=w->X.K=K->X.calm=true->∀(i:Nat) (pins:List (Addr×Obj)) (s:Shared) (σ:St) (H:Hp) (E:Value->Shared->Prop),Inv X pins σ H s->(∀b∈fp,iR X pins H b)->tn i s.heap->J.go i H->
  wpAny (model P w) X.A (pyNext (.ref it)) (λr s1=>∃u,r=some u/\
   wpAny (model P w) X.A (letOwnedTupleGo tg (.ref it) u) (λ_ s2=>∃x H',Inv X pins σ H' s2/\RelV x u/\J.HY i H x H'/\tn (i+1) s2.heap/\∀b∈fp,H' b=none) E s1) E s
 done:∀(X:Cx),X.prog=P->X.w=w->X.K=K->X.calm=true->∀(i:Nat) (pins:List (Addr×Obj)) (s:Shared) (σ:St) (H:Hp) (E:Value->Shared->Prop),Inv X pins σ H s->(∀b∈fp,iR X pins H b)->tn i s.heap->J.stop i H->
  wpAny (model P w) X.A (pyNext (.ref it)) (λr s1=>r=none/\Inv X pins σ H s1) E s
 self:∀(A:Around) (i:Nat) (s:Shared) (Q:Value->Shared->Prop) (E:Value->Shared->Prop),tn i s.heap->Q (.ref it) s->wpAny (model P w) A (pyIter (.ref it)) Q E s
abbrev TI:=St->Hp->(It->Hp->Prop)->Prop
def UB(X:Cx)(pins:List (Addr×Obj))(σ:St)(tg:Expr)(R:It->Hp->Prop)(itv:Value)(s2:Shared):Prop:=
 ∃(it:Addr) (fp:List Addr) (tn:Nat->Heap->Prop) (J:It) (H':Hp),itv=.ref it/\Inv X pins σ H' s2/\Turn X.prog X.w X.K tg J fp it tn/\tn 0 s2.heap/\(∀b∈fp,iR X pins H' b)/\R J H'
def PI(X:Cx)(tg iter:Expr)(wi:TI):Prop:=
 ∀(pins:List (Addr×Obj)) (s:Shared) (σ:St) (H:Hp) (R:It->Hp->Prop),Inv X pins σ H s->wi σ H R->
  wpAny (model X.prog X.w) X.A (eval iter X.env) (λv s1=>wpAny (model X.prog X.w) X.A (pyIter v) (UB X pins σ tg R) X.xe s1) X.xe s
def vf{M:Model}{A:Around}{E:Value->Shared->Prop}{s:Shared}{tg:Expr}{it:Addr}{u:Value}{o:Obj}{n:String}{vs:Array Value}{Q:Unit->Shared->Prop}(ho:s.heap.get? it=some o)(hc:o.cls=.type n)(hd:o.data=.fields vs)
    (hn:["enumerate","zip","dict_itemiterator","dict_reverseitemiterator","odict_iterator","itertools.zip_longest","itertools.pairwise"].contains n=false) (hQ:Q () s):wpAny M A (letOwnedTupleGo tg (.ref it) u) Q E s:=by
  unfold letOwnedTupleGo;cases tg<;>first
    |exact aaf hQ
    | (cases u<;>first
        |exact aaf hQ
        | (refine gV (wpAny_load ho ?_)
           rw[hc,hd];show wpAny M A (if (["enumerate","zip","dict_itemiterator","dict_reverseitemiterator","odict_iterator","itertools.zip_longest","itertools.pairwise"].contains n&&vs[0]?==some (rawInt _))=true then _ else _) Q E s;rw[aaj (by intro h;rw[hn,Bool.false_and]at h;cases h)];exact aaf hQ))
noncomputable def UC(K:PySem.W.Frag)(a:Addr):It:=
 ⟨λi H=>∃xs x,fQ K H a xs/\xs[i]?=some x,λi H x H'=>H'=H/\∀xs,fQ K H a xs->xs[i]?=some x,λi H=>∃xs,fQ K H a xs/\xs.length<=i⟩
noncomputable def UD(K:PySem.W.Frag)(a:Addr):It:=
 ⟨λi H=>∃xs x,dQ K H a xs/\xs[i]?=some x,λi H x H'=>H'=H/\∀xs,dQ K H a xs->xs[i]?=some x,λi H=>∃xs,dQ K H a xs/\xs.length<=i⟩
noncomputable def HZ(lo:Int)(n:Nat):It:=⟨λi _=>i<n,λi H x H'=>H'=H/\x=.int (lo+i),λi _=>n<=i⟩
def Cy{P:Program}{w:World}{K:PySem.W.Frag}{tg:Expr}(a it:Addr):Turn P w K tg (UC K a) [it] it (λi h=>h.IsListIter it a i) where
 mem:=by simp
 obj:=λi h f b j=>by
  have e:b=it:=by simpa using j
  subst e;obtain⟨o,e,c,d⟩:=f;exact⟨o,e,λv z=>by rw[d]at z;cases z⟩
 keep:=λi h q f k=>f.at λo e=>k it (by simp) o e
 item:=by
  intro X y A B G i g s σ H E I hf f hg;subst y A B;obtain⟨J,x,r,C⟩:=hg;obtain⟨F,rv,p,L⟩:=I.list r;obtain⟨u,M,N⟩:=rv.get C;obtain⟨f0,f1,f2,f3,f4,f5⟩:=hf it (by simp);refine wpAny_pyNext_list_item f p.isList (x:=u) (by simpa using M) λq l Q=>?_;have I1:Inv X g σ H { s with heap:=q }:=I.turned (t':=s.toks) (λb o j e=>(Q.2 b j).trans e) f0 f1 f3 f4 f5;obtain⟨o,e,c,d⟩:=id l;exact⟨u,rfl,vf (s:={ s with heap:=q }) e c d (by decide) ⟨x,H,I1,N,⟨rfl,λys Y=>by rw[I.Ff Y r];exact C⟩,l,λb j=>(hf b j).1⟩⟩
 done:=by
  intro X y A B G i g s σ H E I hf f hg;subst y A B;obtain⟨J,r,C⟩:=hg;obtain⟨F,rv,p,L⟩:=I.list r;obtain⟨f0,f1,f2,f3,f4,f5⟩:=hf it (by simp);have hl:=rv.length;exact wpAny_pyNext_list_end (I.ok.hd G) f p.isList (by simp;omega) λq Z=>⟨rfl,I.turned (t':=s.toks) (λb o j e=>Z b o j e) f0 f1 f3 f4 f5⟩
 self:=λ_ _ _ _ _ f h=>wpAny_pyIter_listiter f h
def Bb{P:Program}{w:World}{K:PySem.W.Frag}{tg:Expr}(a it:Addr):Turn P w K tg (UD K a) [it] it (λi h=>h.IsTupleIter it a i) where
 mem:=by simp
 obj:=λi h f b j=>by
  have e:b=it:=by simpa using j
  subst e;obtain⟨o,e,c,d⟩:=f;exact⟨o,e,λv z=>by rw[d]at z;cases z⟩
 keep:=λi h r f k=>f.at λo e=>k it (by simp) o e
 item:=by
  intro X A B C G i g s σ H E I hf f hg;subst A B C;obtain⟨J,x,y,F⟩:=hg;obtain⟨l,rv,p,L⟩:=I.tuple y;obtain⟨u,M,N⟩:=rv.get F;obtain⟨f0,f1,f2,f3,f4,f5⟩:=hf it (by simp);refine wpAny_pyNext_tuple_item f (show s.heap.IsTuple a l.toArray from p) (x:=u) (by simpa using M) λr q Q=>?_;have I1:Inv X g σ H { s with heap:=r }:=I.turned (t':=s.toks) (λb o j e=>(Q.2 b j).trans e) f0 f1 f3 f4 f5;obtain⟨o,e,c,d⟩:=id q;exact⟨u,rfl,vf (s:={ s with heap:=r }) e c d (by decide) ⟨x,H,I1,N,⟨rfl,λys Y=>by rw[I.oA Y y];exact F⟩,q,λb j=>(hf b j).1⟩⟩
 done:=by
  intro X A B C G i g s σ H E I hf f hg;subst A B C;obtain⟨J,y,F⟩:=hg;obtain⟨l,rv,p,L⟩:=I.tuple y;obtain⟨f0,f1,f2,f3,f4,f5⟩:=hf it (by simp);have hl:=rv.length;exact wpAny_pyNext_tuple_end (I.ok.hd G) f (show s.heap.IsTuple a l.toArray from p) (by simp;omega) λr Z=>⟨rfl,I.turned (t':=s.toks) (λb o j e=>Z b o j e) f0 f1 f3 f4 f5⟩
 self:=λ_ _ _ _ _ f h=>wpAny_pyIter_tupleiter f h
def Bc{P:Program}{w:World}{K:PySem.W.Frag}{tg:Expr}(it:Addr)(lo:Int)(n:Nat):Turn P w K tg (HZ lo n) [it] it (λi h=>IsRangeIter h it (lo+(i:Nat)*1) ((n:Int) - (i:Nat)) 1) where
 mem:=by simp
 obj:=λi h a b d=>by
  have e:b=it:=by simpa using d
  subst e;exact⟨_,a,λv z=>by
   have r:Data.fields _=Data.cell v:=z;cases r⟩
 keep:=λi h g a k=>k it (by simp) _ a
 item:=by
  intro X j l p q i c s σ H E I hf a hg;subst j l p;obtain⟨f0,f1,f2,f3,f4,f5⟩:=hf it (by simp);have W:=Walks.range (prog:=X.prog) (w:=X.w) (I.ok.hd q) it lo 1 n;refine W.item i s _ _ hg a λv g tk x f y=>?_;obtain⟨t,rfl⟩:=x;have I1:Inv X c σ H { s with heap:=g,toks:=tk }:=I.turned (λb o d e=>y b o (by simpa using d) e) f0 f1 f3 f4 f5;refine⟨_,rfl,vf (s:={ s with heap:=g,toks:=tk }) (n:="range_iterator") f rfl rfl (by decide) ⟨.int (lo+i),H,I1,⟨t,?_⟩,⟨rfl,rfl⟩,f,λb d=>(hf b d).1⟩⟩;rw[Int.mul_one]
 done:=by
  intro X j l p q i c s σ H E I hf a hg;subst j l p;obtain⟨f0,f1,f2,f3,f4,f5⟩:=hf it (by simp);exact wpAny_pyNext_range_end (I.ok.hd q) a (by have:n<=i:=hg;omega) λg A=>⟨rfl,I.turned (t':=s.toks) (λb o d e=>A b o d e) f0 f1 f3 f4 f5⟩
 self:=λ_ _ _ _ _ a h=>wpAny_pyIter_rangeiter a h
section
variable{X:Cx}{tg:Expr}
def Ft{pins:List (Addr×Obj)}{σ:St}{H:Hp}{s:Shared}{R:It->Hp->Prop}{E:Value->Shared->Prop}{lo hi:Int}{t u v:Tok}{tk:Nat}(I:Inv X pins σ H s)(h1:-(2 ^ 62)<=lo)(h2:lo<2 ^ 62)(h3:-(2 ^ 62)<=hi)(h4:hi<2 ^ 62)
  (q:R (HZ lo (hi - lo).toNat) H):wpAny (model X.prog X.w) X.A (pyIter (.ref s.heap.objs.size)) (UB X pins σ tg R) E { s with heap:=s.heap.push { cls:=.type "range",data:=.fields #[.int lo t,.int hi u,.int 1 v]},toks:=tk }:=by
 refine wpAny_pyIter_range (IsRange.new ..) (small_one h1 h2 h3 h4) ?_;have I1:Inv X pins σ H { s with heap:=s.heap.push { cls:=.type "range",data:=.fields #[.int lo t,.int hi u,.int 1 v]},toks:=tk }:=I.kept λb o e=>aac _ e;refine⟨(s.heap.push { cls:=.type "range",data:=.fields #[.int lo t,.int hi u,.int 1 v]}).objs.size,[(s.heap.push { cls:=.type "range",data:=.fields #[.int lo t,.int hi u,.int 1 v]}).objs.size],_,_,H,rfl,
  I1.kept (t':=tk) λb o e=>aac _ e,Bc _ lo (hi - lo).toNat,?_,λb a=>?_,q⟩
 .have c:lo+((0:Nat):Int)*1=lo:=by simp
  have d:(((hi - lo).toNat:Nat):Int) - ((0:Nat):Int)=Builtin.Range.rangeSize lo hi 1:=by rw[rangeSize_one];split<;>omega
  show IsRangeIter _ _ (lo+((0:Nat):Int)*1) ((((hi - lo).toNat:Nat):Int) - ((0:Nat):Int)) 1;rw[c,d];exact aat _ rfl
 .have e:b=(s.heap.push { cls:=.type "range",data:=.fields #[.int lo t,.int hi u,.int 1 v]}).objs.size:=by simpa using a
  subst e;exact I1.Ba (aae _) (I1.hok.fresh (aae _))
noncomputable def Sx(ta:TA):TI:=λσ H R=>ta σ H λa H1=>∃j:Int,a=[.int j]/\-(2 ^ 62)<=j/\j<2 ^ 62/\R (HZ 0 j.toNat) H1
def Cz {a:Expr}{ta:TA}{p pos:Pos}(hg:Gl X "range") (hm:X.mg "range" = none) (ha:PA X [a] ta) (hs:autoParam (starEach [a] X.env=[(false,eval a X.env)]) zb._auto_1):PI X tg (.Call (.Name "range" p) [a] [] pos) (Sx ta):=by
 intro b s σ H R I h;refine Call_ (kj I hg hm boot_range (abc (bQ (ha pos b s σ H _ I h) λi s1 zr=>?_) hs rfl));obtain⟨l,H1,I1,d,c⟩:=zr;obtain⟨j,e,c,f,q⟩:=c;subst e;cases d with
 |cons r g=>
  cases g;obtain⟨t,rfl⟩:=r;exact call_range_1 (Ft I1 (by omega) (by omega) c f (by simpa using q))
noncomputable def Wf(wi:TI)(g:TG)(tb:TS):TS:=λD σ H=>wi σ H λJ H1=>∃W:Nat->Nat->St->Hp->Prop,(∃m,W 0 m σ H1)/\∀i m σ H,W i m σ H->
 (J.stop i H/\D.nx σ H)\/(J.go i H/\∃N:St->Hp->Prop,(∀σ' H',N σ' H'->∃m',m'<m/\W (i+1) m' σ' H')/\∀x H',J.HY i H x H'->g x σ H' λσ2 H2=>tb { D with nx:=N,ct:=N,bk:=D.nx } σ2 H2)
noncomputable def oB(fp:List Addr)(h:Heap):List (Addr×Obj):=fp.filterMap λb=>(h.get? b).map λo=>(b,o)
def jX{fp:List Addr}{h:Heap}{b:Addr}{o:Obj}(hb:b∈fp)(e:h.get? b=some o):(b,o)∈oB fp h:=List.mem_filterMap.mpr ⟨b,hb,by rw[e];rfl⟩
def CA{fp:List Addr}{h:Heap}{p:Addr×Obj}(hp:p∈oB fp h):p.1∈fp/\h.get? p.1=some p.2:=by
 obtain⟨b,a,e⟩:=List.mem_filterMap.mp hp;cases q:h.get? b with
 |none=>rw[q]at e;cases e
 |some o=>
  rw[q]at e;have c:(b,o)=p:=W0 e;subst c;exact⟨a,q⟩
def Inv.pinned{pins:List (Addr×Obj)}{σ:St}{H:Hp}{s:Shared}{fp:List Addr}(I:Inv X pins σ H s)(hf:∀b∈fp,iR X pins H b)(ho:∀b∈fp,∃o,s.heap.get? b=some o/\∀v,o.data≠.cell v):Inv X (pins++oB fp s.heap) σ H s:=
 I.zy λp f=>(List.mem_append.mp f).elim (λz=>I.pin p (aaE _ z)) λz=>by
  obtain⟨a,e⟩:=CA z;obtain⟨f0,f1,f2,_⟩:=hf p.1 a;obtain⟨o,c,d⟩:=ho p.1 a;rw[e]at c;cases c;exact⟨e,f0,f1,f2,d⟩
def Inv.mX{pins pl:List (Addr×Obj)}{σ:St}{H:Hp}{s:Shared}(I:Inv X (pins++pl) σ H s):Inv X pins σ H s:=I.zy λp a=>I.pin p (aaE _ (aaW _ a))
def Mv{iter:Expr}{body:List Stmt}{wi:TI}{g:TG}{tb:TS}{pos:Pos}(hp:PassesOwn (model X.prog X.w) X.A X.env X.xe)(hc:X.calm=true)(hi:PI X tg iter wi)(hg:PG X tg g)(hb:ji X body tb)
  (hs:autoParam (∀x,foldedSetIterable iter X.env x=pure x) zf._auto_1):PS X (.For tg iter body [] pos) (Wf wi g tb):=by
 intro a s σ H D I h;refine wpAny_For (bQ (hi a s σ H _ I h) λv s1 L=>bQ L λitv s2 M=>?_) hs;obtain⟨it,p,G,J,H2,e,I2,T,z,f2,W,⟨P,Q⟩,q⟩:=M;subst e;have B:∀{H':Hp},(∀b∈p,H' b=none)->∀b∈p,iR X a H' b:=λY b hb=>⟨Y b hb,(f2 b hb).2⟩
 refine codeAny_forLoop_any (λn K=>∃i σ' H',Inv X a σ' H' K/\G i K.heap/\(∀b∈p,H' b=none)/\W i n σ' H') ?_ P ⟨0,σ,H2,I2,z,λb hb=>(f2 b hb).1,Q⟩;rintro n s3 ⟨i,σ3,H3,I3,st3,cI,w3⟩;rcases q i n σ3 H3 w3 with ⟨y,Z⟩|⟨go,N,hN,step⟩
 .refine abd hp (bQ (T.done X rfl rfl rfl hc i a s3 σ3 H3 X.xe I3 (B cI) st3 y) λr s4 zr=>?_);obtain⟨C,I4⟩:=zr;subst C;exact acB ⟨σ3,H3,I4,Z⟩
 .refine abd hp (bQ (T.item X rfl rfl rfl hc i a s3 σ3 H3 X.xe I3 (B cI) st3 go) λr s4 zr=>?_);obtain⟨u,C,h4⟩:=zr;subst C;refine abd hp (bQ h4 λ_ s5 zr=>?_);obtain⟨x,H5,I5,r5,y5,F,rC⟩:=zr;have Xq:=I5.pinned (B rC) (T.obj _ _ F);refine abd hp (bQ (hg _ s5 σ3 H5 x u _ Xq r5 (step x H5 y5)) λ_ s6 zr=>?_);obtain⟨Xr,H6,I6,q6⟩:=zr;refine abd hp (bQ (hb _ s6 Xr H6 _ I6 q6) λf s7 l=>?_);have c:∀{j:St} {H7:Hp},Inv X (a++oB p s5.heap) j H7 s7->N j H7->∃m,m<n/\∃i σ' H',Inv X a σ' H' s7/\G i s7.heap/\(∀b∈p,H' b=none)/\W i m σ' H':=λ{j H7} I7 n7=>by
   obtain⟨m',hm,w7⟩:=hN j H7 n7;refine⟨m',hm,i+1,j,H7,I7.mX,T.keep _ _ _ F λb hb o e=>(I7.pin (b,o) (aaE _ (aaE _ (jX hb e)))).1,λb hb=>?_,w7⟩;obtain⟨o,e,d⟩:=T.obj _ _ F b hb;exact(I7.pin (b,o) (aaE _ (aaE _ (jX hb e)))).2.1
  cases f with
  |next=>obtain⟨j,H7,I7,n7⟩:=l;exact c I7 n7
  |cont=>obtain⟨j,H7,I7,n7⟩:=l;exact c I7 n7
  |brk=>obtain⟨j,H7,I7,l⟩:=l;exact⟨j,H7,I7.mX,l⟩
  |ret v=>obtain⟨x7,j,H7,I7,r7,l⟩:=l;exact⟨x7,j,H7,I7.mX,r7,l⟩
end
abbrev R2:=V->V->Hp->VK->Prop
def eg(X:Cx)(f:Value->Value->Sem Value)(r:R2):Prop:=
 ∀(pins:List (Addr×Obj)) (s:Shared) (σ:St) (H:Hp) (x y:V) (v u:Value) (Q:VK),Inv X pins σ H s->RelV x v->RelV y u->r x y H Q->
  wpAny (model X.prog X.w) X.A (f v u) (EP X pins σ Q) X.xe s
def Mw(X:Cx)(f:Value->Sem Value)(r:V->Hp->VK->Prop):Prop:=
 ∀(pins:List (Addr×Obj)) (s:Shared) (σ:St) (H:Hp) (x:V) (v:Value) (Q:VK),Inv X pins σ H s->RelV x v->r x H Q->
  wpAny (model X.prog X.w) X.A (f v) (EP X pins σ Q) X.xe s
def gi(X:Cx)(f:Value)(r:List V->Hp->VK->Prop):Prop:=
 ∀(pins:List (Addr×Obj)) (s:Shared) (σ:St) (H:Hp) (xs:List V) (us:List Value) (Q:VK),Inv X pins σ H s->Vals xs us->r xs H Q->
  wpAny (model X.prog X.w) X.A (call f us) (EP X pins σ Q) X.xe s
def Wg(X:Cx)(r:V->Hp->(Bool->Hp->Prop)->Prop):Prop:=
 ∀(pins:List (Addr×Obj)) (s:Shared) (σ:St) (H:Hp) (x:V) (v:Value) (Q:Bool->Hp->Prop),Inv X pins σ H s->RelV x v->r x H Q->
  wpAny (model X.prog X.w) X.A (truthy v) (TP X pins σ Q) X.xe s
noncomputable def CB(r:R2)(ta tb:TE):TE:=λσ H Q=>ta σ H λx H1=>tb σ H1 λy H2=>r x y H2 Q
noncomputable def Xu(r:V->Hp->VK->Prop)(ta:TE):TE:=λσ H Q=>ta σ H λx H1=>r x H1 Q
noncomputable def rI(C:Int->Int->Prop)(g:Int->Int->V):R2:=λx y H Q=>∃i j,x=.int i/\y=.int j/\C i j/\Q (g i j) H
noncomputable def vS(g:Int->Int->V):R2:=λx y H Q=>∃i j,x=.int i/\y=.int j/\Q (g i j) H
def rU(g:Int->V):V->Hp->VK->Prop:=λx H Q=>∃i,x=.int i/\Q (g i) H
section
variable{X:Cx}{a b:Expr}{ta tb:TE}{pos:Pos}
def Fv(ha:PE X a ta)(hb:PE X b tb){pins:List (Addr×Obj)}{s:Shared}{σ:St}{H:Hp}{R:V->V->Hp->Prop}(I:Inv X pins σ H s)
  (h:ta σ H λx H1=>tb σ H1 λy H2=>R x y H2) {Q:Value->Shared->Prop} {f:Value->Value->Sem Value}
  (hf:∀v u s2 x y H2,Inv X pins σ H2 s2->RelV x v->RelV y u->R x y H2->wpAny (model X.prog X.w) X.A (f v u) Q X.xe s2) :
  wpAny (model X.prog X.w) X.A (eval a X.env) (λv s₁=>wpAny (model X.prog X.w) X.A (eval b X.env) (λu s₂=>wpAny (model X.prog X.w) X.A (f v u) Q X.xe s₂) X.xe s₁) X.xe s:=by
 refine bQ (ha pins s σ H _ I h) λv s1 zr=>?_;obtain⟨x,H1,I1,c,d⟩:=zr;refine bQ (hb pins s1 σ H1 _ I1 d) λu s2 zr=>?_;obtain⟨y,H2,I2,e,g⟩:=zr;exact hf v u s2 x y H2 I2 c e g
def Sy{op:Operator}{r:R2}(ho:eg X (binaryOp op) r)(ha:PE X a ta)(hb:PE X b tb):PE X (.BinOp a op b pos) (CB r ta tb):=by
 intro c s σ H Q I h;exact wpAny_BinOp (Fv ha hb I h λv u s2 x y H2 I2 d e q=>ho c s2 σ H2 x y v u Q I2 d e q)
def Sz{op:UnaryOp}{r:V->Hp->VK->Prop}(ho:Mw X (unaryOp op) r)(ha:PE X a ta):PE X (.UnaryOp op a pos) (Xu r ta):=by
 intro c s σ H Q I h;exact UnaryOp_ (bQ (ha c s σ H _ I h) λv s1 ⟨x,H1,I1,d,e⟩=>ho c s1 σ H1 x v Q I1 d e)
def Mx{f:Value->Value->Sem Value}{C:Int->Int->Prop}{g:Int->Int->Int}
  (rule:∀(i j:Int) (t u:Tok) (s:Shared) (Q:Value->Shared->Prop) (E:Value->Shared->Prop),C i j->Q (.int (g i j) s.toks) { s with toks:=s.toks+1 }->wpAny (model X.prog X.w) X.A (f (.int i t) (.int j u)) Q E s) :
  eg X f (rI C λi j=>.int (g i j)):=by
 intro c s σ H x y v u Q I rx ry h;obtain⟨i,j,rfl,rfl,d,q⟩:=h;obtain⟨t,rfl⟩:=rx;obtain⟨e,rfl⟩:=ry;exact rule i j t e s _ _ d ⟨.int (g i j),H,I.tok _,⟨_,rfl⟩,q⟩
def My{f:Value->Value->Sem Value}{g:Int->Int->Int}
  (rule:∀(i j:Int) (t u:Tok) (s:Shared) (Q:Value->Shared->Prop) (E:Value->Shared->Prop),Q (.int (g i j) s.toks) { s with toks:=s.toks+1 }->wpAny (model X.prog X.w) X.A (f (.int i t) (.int j u)) Q E s) :
  eg X f (vS λi j=>.int (g i j)):=by
 intro c s σ H x y v u Q I rx ry h;obtain⟨i,j,rfl,rfl,q⟩:=h;obtain⟨t,rfl⟩:=rx;obtain⟨d,rfl⟩:=ry;exact rule i j t d s _ _ ⟨.int (g i j),H,I.tok _,⟨_,rfl⟩,q⟩
def Mz{f:Value->Value->Sem Value}{g:Int->Int->Bool}
  (rule:∀(i j:Int) (t u:Tok) (s:Shared) (Q:Value->Shared->Prop) (E:Value->Shared->Prop),Q (.bool (g i j)) s->wpAny (model X.prog X.w) X.A (f (.int i t) (.int j u)) Q E s) :
  eg X f (vS λi j=>.bl (g i j)):=by
 intro c s σ H x y v u Q I rx ry h;obtain⟨i,j,rfl,rfl,q⟩:=h;obtain⟨t,rfl⟩:=rx;obtain⟨d,rfl⟩:=ry;exact rule i j t d s _ _ ⟨.bl (g i j),H,I,rfl,q⟩
def Wh(i j:Int):Prop:=0<j/\j<1073741824
def Fw(i j:Int):Prop:=(-(2 ^ 64)<i/\i<2 ^ 64)\/(-(2 ^ 64)<j/\j<2 ^ 64)
def Fw.ok{i j:Int}(h:Fw i j):IntMulOk i j:=by
 rcases h with ⟨c,d⟩|⟨c,d⟩
 .exact .of_left (intBits_le_64 c d)
 .exact .of_right (intBits_le_64 c d)
def MA:eg X (binaryOp .Add) (vS λi j=>.int (i+j)):=My λ_ _ _ _ _ _ _ q=>add_int q
def MB:eg X (binaryOp .Sub) (vS λi j=>.int (i - j)):=My λ_ _ _ _ _ _ _ q=>sub_int q
def MC:eg X (binaryOp .Mult) (rI Fw λi j=>.int (i*j)):=Mx λ_ _ _ _ _ _ _ c q=>mul_int q c.ok
def JZ:eg X (binaryOp .FloorDiv) (rI Wh λi j=>.int (i / j)):=Mx λi j _ _ _ _ _ c q=>by
 have d:(0:Int)<j:=c.1;have e:j<1073741824:=c.2;exact floordiv_int (by omega) (by rw[Int.fdiv_eq_ediv_of_nonneg i (by omega)];exact q) (.inl (PyProof.noPylong_small (by omega)))
def MD:eg X (binaryOp .Mod) (rI (λ_ j=>0<j) λi j=>.int (i % j)):=Mx λi j _ _ _ _ _ c q=>by
 have d:(0:Int)<j:=c;exact mod_int' (by omega) (by rw[Int.fmod_eq_emod_of_nonneg i (by omega)];exact q)
def Xv{f:Value->Sem Value}{g:Int->Int}
  (rule:∀(i:Int) (t:Tok) (s:Shared) (Q:Value->Shared->Prop) (E:Value->Shared->Prop),Q (.int (g i) s.toks) { s with toks:=s.toks+1 }->wpAny (model X.prog X.w) X.A (f (.int i t)) Q E s) :
  Mw X f (rU λi=>.int (g i)):=by
 intro c s σ H x v Q I rx h;obtain⟨i,rfl,q⟩:=h;obtain⟨t,rfl⟩:=rx;exact rule i t s _ _ ⟨.int (g i),H,I.tok _,⟨_,rfl⟩,q⟩
def MF:Mw X (unaryOp .USub) (rU λi=>.int (-i)):=Xv λ_ _ _ _ _ q=>neg_int q
end
section
variable{X:Cx}{a b c:Expr}{ta tb:TE}{pos:Pos}
def CC{pins:List (Addr×Obj)}{σ:St}{H:Hp}{s:Shared}{Q:VK}{k k':Bool}(I:Inv X pins σ H s)(q:Q (.bl k) H)(e:k=k'):EP X pins σ Q (.bool k') s:=by
 subst e;exact⟨.bl k,H,I,rfl,q⟩
def SA:eg X (compareOp .Lt) (vS λi j=>.bl (decide (i<j))):=Mz λ_ _ _ _ _ _ _ q=>lt_int q
def SD:eg X (compareOp .Gt) (vS λi j=>.bl (decide (j<i))):=Mz λ_ _ _ _ _ _ _ q=>gt_int q
def MG:eg X (compareOp .Is) (λx y H Q=>y=.aD/\Q (.bl (decide (x=.aD))) H):=by
 intro d s σ H x y v u Q I rx ry h;obtain⟨rfl,q⟩:=h;cases ry;refine is_none_gen (CC I q ?_);cases x<;>first
  | (cases rx;rfl)
  | (obtain⟨t,rfl⟩:=rx;rfl)
def J0:eg X (compareOp .IsNot) (λx y H Q=>y=.aD/\Q (.bl (!decide (x=.aD))) H):=by
 intro d s σ H x y v u Q I rx ry h;obtain⟨rfl,q⟩:=h;cases ry;refine isnot_none_gen (CC I q ?_);cases x<;>first
  | (cases rx;rfl)
  | (obtain⟨t,rfl⟩:=rx;rfl)
def jD(b:Expr){op:CmpOp}(h:autoParam (op≠.In) zP._auto_1)(h2:autoParam (op≠.NotIn) zP._auto_1):behindInMarks op b=false:=by
 have d:(op==CmpOp.In)=false:=by cases op<;>first|rfl|exact absurd rfl h
 have e:(op==CmpOp.NotIn)=false:=by cases op<;>first|rfl|exact absurd rfl h2
 cases b<;>simp[behindInMarks,d,e]
def J1{op:CmpOp}{r:R2}(ho:eg X (compareOp op) r)(ha:PE X a ta)(hb:PE X b tb)(hm:behindInMarks op b=false):PE X (.Compare a [op] [b] pos) (CB r ta tb):=by
 intro d s σ H Q I h;exact wpAny_Compare1 (Fv ha hb I h λv u s2 x y H2 I2 e f q=>ho d s2 σ H2 x y v u Q I2 e f q) hm
noncomputable def SE(t:TE):TT:=λσ H Q=>t σ H λx H'=>∃k,x=.bl k/\Q k H'
def J2{op:CmpOp}{r:R2}(ho:eg X (compareOp op) r)(ha:PE X a ta)(hb:PE X b tb)(hm:behindInMarks op b=false):PT X (.Compare a [op] [b] pos) (SE (CB r ta tb)):=by
 intro d s σ H Q I h;refine wpAny_isTrue_Compare1 (bQ (ha d s σ H _ I h) λv s1 ⟨x,H1,I1,f,g⟩=>bQ (hb d s1 σ H1 _ I1 g) λu s2 ⟨y,H2,I2,i,j⟩=>
  bQ (ho d s2 σ H2 x y v u _ I2 f i j) λc s3 ⟨z,H3,I3,l,k,e,o⟩=>?_) hm
 subst e;cases l;exact acg ⟨H3,I3,o⟩
def Fx(K:PySem.W.Frag)(x:V)(H:Hp)(k:Bool):Prop:=
 match x with
 |.aD=>k=false
 |.bl b=>k=b
 |.int i=>k=(i != 0)
 |.str y=>y.length<=sizeLine/\k=((y.length:Int) != 0)
 |.Cr y=>y.size<=sizeLine/\k=((y.size:Int) != 0)
 |.ref p=>(∃xs,fQ K H p xs/\k = !xs.isEmpty)\/(∃xs,dQ K H p xs/\k = !xs.isEmpty)\/∃kvs,H p=some (.dK kvs)/\k = !kvs.isEmpty
 |_=>False
def Bd{κ:Type}{kvs:List (κ×V)}{vs:List (κ×Value)}(r:KV kvs vs):(!vs.isEmpty) = !kvs.isEmpty:=by
 cases r<;>rfl
def rD{xs:List V}{its:List Value}(r:Vals xs its):(!its.toArray.isEmpty) = !xs.isEmpty:=by
 cases r<;>simp
def mh:(sizeLine:Nat)<2 ^ 63:=by rw[aa8];decide
def MH:Wg X (λx H Q=>∃k,Fx X.K x H k/\Q k H):=by
 intro z s σ H x v Q I rx h;obtain⟨k,e,q⟩:=h;have B:=mh;have C:sizeLine=16777216:=aa8;cases x with
 |aD=>
  cases rx;have d:k=false:=e;subst d;exact truthy_none ⟨H,I,q⟩
 |bl b=>
  cases rx;have d:k=b:=e;subst d;exact acg ⟨H,I,q⟩
 |int i=>
  obtain⟨t,rfl⟩:=rx;have d:k=(i != 0):=e;subst d;exact PySem.P.truthy_int ⟨H,I,q⟩
 |str y=>
  obtain⟨t,rfl⟩:=rx;obtain⟨hy,d⟩:y.length<=sizeLine/\k=((y.length:Int) != 0):=e;subst d;exact PySem.P.truthy_str (by omega) ⟨H,I.tok _,q⟩
 |Cr y=>
  obtain⟨t,rfl⟩:=rx;obtain⟨hy,d⟩:y.size<=sizeLine/\k=((y.size:Int) != 0):=e;subst d;exact PySem.W.truthy_bytes (by omega) ⟨H,I.tok _,q⟩
 |ref p=>
  cases rx;have d:(∃g,fQ X.K H p g/\k = !g.isEmpty)\/(∃g,dQ X.K H p g/\k = !g.isEmpty)\/∃kvs,H p=some (.dK kvs)/\k = !kvs.isEmpty:=e;rcases d with ⟨g,j,d⟩|⟨g,j,d⟩|⟨kvs,j,d⟩
  .subst d;obtain⟨l,r,o,A⟩:=I.list j;have f:=r.length;exact wpAny_truthy_list o.isList (by simp only[Xm];omega) ⟨H,I.tok _,by rw[rD r];exact q⟩
  .subst d;obtain⟨l,r,o,A⟩:=I.tuple j;have f:=r.length;exact truthy_tuple o (by simp only[Xm];omega) ⟨H,I.tok _,by rw[rD r];exact q⟩
  .subst d;obtain⟨A,hS,vs,r,m⟩:kvs.length<=sizeLine/\(p==sysModules)=false/\∃vs,KV kvs vs/\s.heap.DictOf (aQ X.prog X.w) p vs:=I.hok p _ j;have f:kvs.length=vs.length:=Paired.length r;exact wpAny_truthy_dict hS m (by omega) ⟨H,I.tok _,by rw[Bd r];exact q⟩
 |_=>exact(show False from e).elim
def Fy(ha:PE X a ta)(he:∀whole,isTrue a X.env whole=(do let v <-whole;standAt a.pos;holding [v] (truthy v))) :
  PT X a (λσ H Q=>ta σ H λx H'=>∃k,Fx X.K x H' k/\Q k H'):=by
 intro d s σ H Q I h;exact isTrue_plain (bQ (ha d s σ H _ I h) λv s1 ⟨x,H1,I1,e,f⟩=>MH d s1 σ H1 x v Q I1 e f) (he _)
def Be:eg X (binaryOp .Add) (λx y H Q=>∃i j,x=.str i/\y=.str j/\i.length+j.length<=sizeLine/\Q (.str (i++j)) H):=by
 intro d s σ H x y v u Q I rx ry h;obtain⟨i,j,rfl,rfl,e,q⟩:=h;obtain⟨t,rfl⟩:=rx;obtain⟨f,rfl⟩:=ry;exact add_str (λf tk=>⟨.str (i++j),H,I.tok _,⟨_,rfl⟩,q⟩) e
def vals1{x:V}{us:List Value}(r:Vals [x] us):∃u,us=[u]/\RelV x u:=by
 cases r with
 |cons d e=>cases e;exact⟨_,rfl,d⟩
def vals2{x y:V}{us:List Value}(r:Vals [x,y] us):∃u w',us=[u,w']/\RelV x u/\RelV y w':=by
 cases r with
 |cons d e=>
  cases e with
  |cons f g=>cases g;exact⟨_,_,rfl,d,f⟩
def CD (hc:X.calm=true):gi X (.builtin "min") (λxs H Q=>∃i j,xs=[.int i,.int j]/\Q (.int (if j<i then j else i)) H):=by
 intro e s σ H xs us Q I r h;obtain⟨i,j,rfl,q⟩:=h;obtain⟨u,f,rfl,⟨t,rfl⟩,⟨g,rfl⟩⟩:=vals2 r;refine min_two_ints (I.ok.hd hc) λl tk k=>⟨_,H,I.kept k,?_,q⟩
 by_cases d:j<i
 .rw[LV d,LV d];exact⟨_,rfl⟩
 .rw[aaj d,aaj d];exact⟨_,rfl⟩
end
def jM.some_of{v:V}{o:Option Value}(r:jM (some v) o):∃u,o=some u/\RelV v u:=by
 cases o with
 |none=>exact(show False from r).elim
 |some u=>exact⟨u,rfl,r⟩
structure gb(k:Nat)(A:Around):Prop where
 hd:A.handled=none
 dp:A.depth+3*k+5<recursionLimit
 un:A.units+16*k+200<cLine
theorem gb.deeper{k:Nat}{A:Around}(r:gb (k+1) A)(env:Env):gb k (A.deeper env):=
 ⟨r.hd,by have:=r.dp;show A.depth+1+3*k+5<_;omega,by have:=r.un;show A.units+3+16*k+200<_;omega⟩
theorem gb.depth{k:Nat}{A:Around}(r:gb k A):A.depth<recursionLimit:=by have:=r.dp;omega
theorem gb.units{k:Nat}{A:Around}(r:gb k A):A.units+64<cLine:=by have:=r.un;omega
noncomputable def Wi:TA:=λ_ H Q=>Q [] H
noncomputable def SG(ta:TE)(tr:TA):TA:=λσ H Q=>ta σ H λx H1=>tr σ H1 λa H2=>Q (x :: a) H2
section
variable{X:Cx}{e:Expr}{es:List Expr}{te:TE}{t:TA}{pos:Pos}
def mj:PA X [] Wi:=λ_ _ _ _ H Q I h=>Calls.spliced_nil ⟨[],H,I,.nil,h⟩
def j7(ha:PE X e te)(hr:PA X es t)(hs:autoParam (starEach (e :: es) X.env=(false,eval e X.env) :: starEach es X.env) zb._auto_1):PA X (e :: es) (SG te t):=by
 intro pos a s σ H Q I h;rw[hs];show wpAny _ _ (spliced ((false,eval e X.env) :: backTo pos (starEach es X.env))) _ _ s;refine Calls.spliced_cons (bQ (ha a s σ H _ I h) λu s1 zr=>?_);obtain⟨x,H1,I1,b,c⟩:=zr;exact bQ (hr pos a s1 σ H1 _ I1 c) λi s2 ⟨d,H2,I2,f,g⟩=>⟨x :: d,H2,I2,.cons b f,g⟩
noncomputable def Wj(t:TA):TE:=λσ H Q=>t σ H λa H1=>a.length<=sizeLine/\∀p,H1 p=none->Q (.ref p) (upd H1 p (.tup a))
noncomputable def Wk(t:TA):TE:=λσ H Q=>t σ H λa H1=>a.length<=sizeLine/\∀p,H1 p=none->Q (.ref p) (upd H1 p (.lst a))
def MI{x1}(h:PA X es t):PE X (.Tuple es x1 pos) (Wj t):=by
 intro a s σ H Q I hq;refine wpAny_Tuple_spliced (bQ (h pos a s σ H _ I hq) λc s1 ⟨d,H1,I1,r,z,q⟩=>⟨by rw[<-r.length];exact z,?_⟩);have f:H1 s1.heap.objs.size=none:=I1.hok.fresh (aae _);refine⟨.ref s1.heap.objs.size,upd H1 s1.heap.objs.size (.tup d),I1.laid (t':=s1.toks) (λb u e=>aac _ e) (aae _) ?_,rfl,q _ f⟩;exact⟨z,c,r,⟨_,aat _ rfl,rfl,_,rfl⟩⟩
def MJ(h:PA X es t):PE X (.List es pos) (Wk t):=by
 intro a s σ H Q I hq;refine wpAny_List_spliced (bQ (h pos a s σ H _ I hq) λc s1 ⟨d,H1,I1,r,z,q⟩=>⟨by rw[<-r.length];exact z,?_⟩);have f:H1 s1.heap.objs.size=none:=I1.hok.fresh (aae _);refine⟨.ref s1.heap.objs.size,upd H1 s1.heap.objs.size (.lst d),I1.laid (t':=s1.toks) (λb u e=>aac _ e) (aae _) ?_,rfl,q _ f⟩;exact⟨z,c,0,r,aat _ rfl⟩
end
abbrev Sp:=List V->Hp->VK->XK->Prop
abbrev nL:=List Env->Hp->Shared->XK->Value->Shared->Prop
structure Bf(P:Program)(w:World)(K:PySem.W.Frag)(mg:Str->Option Value)(base:Heap)(A:Around)(outer:List Env)(s:Shared)(H:Hp):Prop where
 frames:A.frames=some outer
 mod:Mod K mg base
 bs:∀b o,base.get? b=some o->s.heap.get? b=some o/\H b=none
 t7:base.objs.size<=s.heap.objs.size
 jN:s.heap.FunFrames base outer
 vM:∀b∈frs outer,H b=none
 hok:fq P w H s.heap
 bare:AllBare s.gens
def CE(outer:List Env)(P:Program)(w:World)(H:Hp)(s:Shared)(Q:VK)(u:Value)(s':Shared):Prop:=
 ∃v H',s'.os=s.os/\AllBare s'.gens/\Un (frs outer) [] H H' s.heap s'.heap/\fq P w H' s'.heap/\RelV v u/\Q v H'
def CR(CX:nL)(outer:List Env)(P:Program)(w:World)(H:Hp)(s:Shared)(Q:VK)(E:XK)(r:Result)(s':Shared):Prop:=
 match r with
 |.ok (.ret u)=>CE outer P w H s Q u s'
 |.ok _=>False
 |.error e=>CX outer H s E e s'
structure jk(P:Program)(w:World)(K:PySem.W.Frag)(mg:Str->Option Value)(base:Heap)(CX:nL)(k:Nat)(f:Addr)(fd:FuncData)(ps:List Str)(sp:Sp):Prop where
 len:∀vs H Q E,sp vs H Q E->vs.length=ps.length
 run:∀(A:Around) (outer:List Env) (s:Shared) (H:Hp) (args:Args) (us:List Value) (vs:List V) (Q:VK) (E:XK),gb k A->Bf P w K mg base A outer s H->BindsTo s fd args (ps.zip us)->Vals vs us->sp vs H Q E->
  codeAny (model P w) A (.call (.ref f) args) (CR CX outer P w H s Q E) s
section
variable{X:Cx}{pins:List (Addr×Obj)}{σ:St}{H:Hp}{s s':Shared}
def Inv.Wl(I:Inv X pins σ H s):Bf X.prog X.w X.K X.mg X.base X.A X.stack s H:=
 ⟨I.ok.frames,I.ok.mod,I.bs,aas I.ok.t7 I.sz,I.stack,I.zx,I.hok,I.bare⟩
def Inv.after{Q:VK}{u:Value}(I:Inv X pins σ H s)(h:CE X.stack X.prog X.w H s Q u s'):EP X pins σ Q u s':=by
 obtain⟨v,H',f,a,un,c,r,q⟩:=h;obtain⟨i,g,d,t,e⟩:=s';obtain rfl:e=s.os:=f;exact⟨v,H',I.call (h':=i) (g':=g) (d':=d) (t':=t) (ch:=[]) un c a (λb z=>absurd z (by simp)),r,q⟩
end
noncomputable def SH(sp:Sp)(jE:List V)(E:XK)(t:TA):TE:=λσ H Q=>t σ H λa H1=>sp (a++jE) H1 Q E
def Binds(K:PySem.W.Frag)(fd:FuncData)(ps:List Str)(ds:List Value):Prop:=
 ∀(s:Shared) (us:List Value),K.In s.heap->(us++ds).length=ps.length->BindsTo s fd ⟨us,[]⟩ (ps.zip (us++ds))
def Binds.all{K:PySem.W.Frag}{fd:FuncData}{ps:List Str}(h:∀us:List Value,us.length=ps.length->bindArgs fd ⟨us,[]⟩=pure (ps.zip us)):Binds K fd ps []:=λs us _ a=>by
 rw[aaD]at a ⊢;exact .of_eq (h us a)
def Passes(CX:nL)(X:Cx)(E:XK):Prop:=∀(pins:List (Addr×Obj)) (σ:St) (H:Hp) (s:Shared) (e:Value) (s':Shared),Inv X pins σ H s->CX X.stack H s E e s'->X.xe e s'
section
variable{X:Cx}{CX:nL}{k:Nat}{f:Addr}{fd:FuncData}{ps:List Str}{sp:Sp}{jE:List V}{ds:List Value}{E:XK}{x:Str}{p pos:Pos}{e:Expr}{es:List Expr}{t:TA}
def MK{pins:List (Addr×Obj)}{σ:St}{H:Hp}{s:Shared}{Q:VK}{us:List Value}{vs:List V}(F:jk X.prog X.w X.K X.mg X.base CX k f fd ps sp)(hr:gb k X.A)(hb:Binds X.K fd ps ds)(hd:Vals jE ds)(hx:Passes CX X E)
  (I:Inv X pins σ H s) (r:Vals vs us) (h:sp (vs++jE) H Q E):wpAny (model X.prog X.w) X.A (call (.ref f) us) (EP X pins σ Q) X.xe s:=by
 have b:Vals (vs++jE) (us++ds):=r.append hd;have c:(us++ds).length=ps.length:=by rw[<-b.length];exact F.len _ _ _ _ h
 refine wpAny_call (acn (F.run X.A X.stack s H ⟨us,[]⟩ (us++ds) (vs++jE) Q E hr I.Wl (hb s us I.t8 c) b h) λr d a=>?_);cases r with
 |error e=>exact hx pins σ H s e d I a
 |ok fl=>
  cases fl with
  |ret u=>exact I.after a
  |next=>exact False.elim a
  |brk=>exact False.elim a
  |cont=>exact False.elim a
def J3(F:jk X.prog X.w X.K X.mg X.base CX k f fd ps sp)(hr:gb k X.A)(hg:Gl X x)(hm:X.mg x=some (.ref f))(hk:PySem.W.keepIn X.K (.ref f)=true)(hb:Binds X.K fd ps ds)(hd:Vals jE ds)(hx:Passes CX X E)
  (ha:PA X (e :: es) t) (hdb:autoParam ((x==("__debug__" : Str))=false) zP._auto_1) (he:autoParam (starEach (e :: es) X.env=(false,eval e X.env) :: starEach es X.env) zb._auto_1) (hpl:autoParam ((backTo pos (starEach es X.env)).any (·.1)=false) zb._auto_1) :
  PE X (.Call (.Name x p) (e :: es) [] pos) (SH sp jE E t):=by
 intro a s σ H Q I h;refine abu (JR I hg hm ?_ hdb);refine ab8 (h₀:=X.base) I.ok.mod.HQ hk (bQ (ha pos a s σ H _ I h) λb s1 ⟨c,H1,I1,r,q⟩=>⟨I1.t8,?_⟩) he hpl;exact MK F hr hb hd hx I1 r q
end
structure bI(N P:List Str)(sc:Scope):Prop where
 kind:sc.kind=.function
 co:sc.isCoroutine=false
 gen:sc.isGenerator=false
 nd:N.Nodup
 pre:N.take P.length=P
 par:∀x∈P,sc.names.lookup x=some .local\/sc.names.lookup x=some .cell
 ML:∀y∈sc.names,y.2≠.free
theorem ud{kindOf:Str->Option NameKind}{x:Str}:∀{binds:List (Str×Value)}{m:Str->Option Value},(∀v,(x,v)∉binds)->bindL kindOf binds m x=m x
 |[],_,_=>rfl
 | (n,v) :: r,m,h=>by
  unfold bindL;rw[ud λw a=>h w (aap _ a)];split
  .have:x≠n:=by rintro rfl;exact h v aaC
   simp[this]
  .rfl
theorem ue{kindOf:Str->Option NameKind}{x:Str}:∀{binds:List (Str×Value)}{m:Str->Option Value},(∀v,(x,v)∉binds)->bindC kindOf binds m x=m x
 |[],_,_=>rfl
 | (n,v) :: r,m,h=>by
  unfold bindC;rw[ue λw a=>h w (aap _ a)];split
  .rfl
  .have:x≠n:=by rintro rfl;exact h v aaC
   simp[this]
theorem uf{kindOf:Str->Option NameKind}{x:Str}{v:Value}:∀{P:List Str}{vs:List Value}{i:Nat}{m:Str->Option Value},P.Nodup->P[i]?=some x->vs[i]?=some v->kindOf x=some .local->
  bindL kindOf (P.zip vs) m x=some v
 |[],_,_,_,_,h,_,_=>by simp at h
 |_ :: _,[],_,_,_,_,h,_=>by simp at h
 |p :: P,w :: vs,0,m,nd,h1,h2,hk=>by
  simp at h1 h2;subst h1;subst h2;show bindL kindOf ((p,w) :: P.zip vs) m p=_;unfold bindL;rw[ud λv a=>(List.nodup_cons.mp nd).1 (acC a).1,LV hk];simp
 |p :: P,w :: vs,i+1,m,nd,h1,h2,hk=>by
  show bindL kindOf ((p,w) :: P.zip vs) m x=_;unfold bindL;exact uf (i:=i) (List.nodup_cons.mp nd).2 (by simpa using h1) (by simpa using h2) hk
theorem ug{kindOf:Str->Option NameKind}{x:Str}{v:Value}:∀{P:List Str}{vs:List Value}{i:Nat}{m:Str->Option Value},P.Nodup->P[i]?=some x->vs[i]?=some v->kindOf x≠some .local->
  bindC kindOf (P.zip vs) m x=some v
 |[],_,_,_,_,h,_,_=>by simp at h
 |_ :: _,[],_,_,_,_,h,_=>by simp at h
 |p :: P,w :: vs,0,m,nd,h1,h2,hk=>by
  simp at h1 h2;subst h1;subst h2;show bindC kindOf ((p,w) :: P.zip vs) m p=_;unfold bindC;rw[ue λv a=>(List.nodup_cons.mp nd).1 (acC a).1,aaj hk];simp
 |p :: P,w :: vs,i+1,m,nd,h1,h2,hk=>by
  show bindC kindOf ((p,w) :: P.zip vs) m x=_;unfold bindC;exact ug (i:=i) (List.nodup_cons.mp nd).2 (by simpa using h1) (by simpa using h2) hk
noncomputable def start(N:List Str)(vs:List V):St:=vs.map some++List.replicate (N.length - vs.length) none
noncomputable def qG(CX:nL)(P:Program)(w:World)(K:PySem.W.Frag)(mg:Str->Option Value)(base:Heap)(N:List Str)(qual:Str)(scope:Scope)(f:Addr)(cd:Value)(A:Around)(outer:List Env)(s:Shared)(H:Hp)(E:XK):Cx where
 prog:=P
 w:=w
 K:=K
 mg:=mg
 base:=base
 A:=A.deeper (envOfC qual scope s.heap.objs.size f cd)
 N:=N
 s₀:=s
 H₀:=H
 env:=envOfC qual scope s.heap.objs.size f cd
 outer:=outer
 stack:=envOfC qual scope s.heap.objs.size f cd :: outer
 ex:=[]
 calm:=true
 fn:=λ_=>true
 pn:=[]
 xe:=λe b=>wpAny (model P w) (A.deeper (envOfC qual scope s.heap.objs.size f cd)) (leaving (envOfC qual scope s.heap.objs.size f cd) e) (λ_ a=>CX outer H s E e a) (λc a=>CX outer H s E c a) b
def vU{sc:Scope}{n:Nat}{x:Str}(h:sc.names.lookup x=some .cell):∃c,(cellsFrom n sc.names []).lookup x=some c:=by
 have q:=acF sc.names n [] (.inl h);exact Option.isSome_iff_exists.mp q
def CF{CX:nL}{P:Program}{w:World}{K:PySem.W.Frag}{mg:Str->Option Value}{base:Heap}{N ps:List Str}{qual:Str}{scope:Scope}{f:Addr}{cd:Value}{A:Around}{outer:List Env}{s s1:Shared}{H:Hp}{E:XK}{us:List Value}{vs:List V}
  (S:bI N ps scope) (hd:A.handled=none) (e0:Bf P w K mg base A outer s H) (hl:vs.length=ps.length) (r:Vals vs us)
  (x:InCallC s s.heap.objs.size (bindL (envOfC qual scope s.heap.objs.size f cd).kindOf (ps.zip us) λ_=>none) (cellsFrom (s.heap.objs.size+1) scope.names []) (bindC (envOfC qual scope s.heap.objs.size f cd).kindOf (ps.zip us) λ_=>none) s1) :
  Inv (qG CX P w K mg base N qual scope f cd A outer s H E) [] (start N vs) H s1:=by
 have F:ps.length<=N.length:=by have:=aau List.length S.pre;rw[abA]at this;omega
 obtain⟨l,tk,rfl,B⟩:=x.done;have CG:∀b:Addr,b∉(qG CX P w K mg base N qual scope f cd A outer s H E).ex:=λb z=>absurd (show b∈([]:List Addr)from z) (by simp);refine⟨⟨e0.mod,S.kind,rfl,rfl,aae _,λy z c l d=>?_,λy g=>?_,λy c _ h=>?_,λ_=>hd,Around.frames_deeper e0.frames,.inr ⟨rfl,rfl⟩,λb z=>absurd z (CG b),e0.bs,e0.t7,λb _ _=>CG b,λb z=>absurd z (CG b),e0.jN,e0.vM⟩,
  rfl,e0.bare,Un.kept B,⟨_,x.toInCall.ns,λi y v l d I=>?_⟩,λy c h=>⟨_,x.cell y c h⟩,e0.hok.fresh (aae _),λy c h=>?_,λp j=>absurd (show p∈([]:List (Addr×Obj))from j) (by simp),e0.hok.kept B,?_⟩
 .exact name_of_addr x.apart (abn l) (abn d)
 .have g:scope.names.lookup y=some .cell\/scope.names.lookup y=some .free:=g;rcases g with g|g
  .exact vU g
  .exact absurd rfl (S.ML _ (abn g))
 .exact acZ (x.above y c (abn h))
 .have o:i<vs.length:=by
   unfold start at d;by_cases o:i<vs.length
   .exact o
   .rw[aaz (by simpa using o)]at d;rw[acz]at d;split at d<;>cases d
  have G:vs[i]?=some v:=by
   unfold start at d;rw[yy (by simpa using o),aaA]at d;cases e:vs[i]? with
   |none=>rw[e]at d;cases d
   |some a=>rw[e]at d;cases d;rfl
  obtain⟨u,C,rv⟩:=r.get G;have j:ps[i]?=some y:=by
   rw[<-S.pre,List.getElem?_take_of_lt (by omega)];exact l
  have UE:ps.Nodup:=by rw[<-S.pre];exact S.nd.sublist (List.take_sublist _ _)
  refine⟨u,rv,?_⟩;rcases S.par y (aag j)with k|k
  .exact .inl ⟨k,uf UE j C k⟩
  .obtain⟨c,e⟩:=vU (n:=s.heap.objs.size+1) k;refine .inr ⟨.inl k,c,e,?_⟩;have q:=x.cell y c e;rw[ug UE j C (by show scope.names.lookup y≠_;rw[k];decide)]at q;exact q
 .exact e0.hok.fresh (acZ (x.above y c (abn h)))
 .unfold start;show _=N.length;rw[aam,aaq,acQ];omega
def SJ{CX:nL}{P:Program}{w:World}{K:PySem.W.Frag}{mg:Str->Option Value}{base:Heap}{k:Nat}{f:Addr}{name qual:Str}{params:Arguments}{body:List Stmt}{scope:Scope}{dV kV doc pm cdv ct oc:Value}{an od:Option Addr}
  {osl:Array (Option Value)} {N ps:List Str} {sp:Sp} (lk:K.lookup f=some ⟨oc,od,.func (PySem.W.fnOf name qual params body scope dV kV doc pm an cdv ct),osl⟩) (hcd:PySem.W.codeIn K cdv qual=true) (S:bI N ps scope)
  (len:∀vs H Q E,sp vs H Q E->vs.length=ps.length)
  (hbody:∀(A:Around) (outer:List Env) (s:Shared) (H:Hp) (vs:List V) (Q:VK) (E:XK),gb k (A.deeper (envOfC qual scope s.heap.objs.size f cdv))->sp vs H Q E->
   ∃t,ji (qG CX P w K mg base N qual scope f cdv A outer s H E) body t/\t { nx:=λ_ H'=>Q .aD H',rt:=Q } (start N vs) H) :
  jk P w K mg base CX (k+1) f (PySem.W.fnOf name qual params body scope dV kV doc pm an cdv ct) ps sp:=by
 refine⟨len,λA outer s H args p vs Q E h d z r l=>?_⟩;have B:=len _ _ _ _ l;have KX:K.In s.heap:=d.mod.HQ.keeps λb o e=>(d.bs b o e).1;have i:s.heap.NoLimit:=d.mod.nolimit.keeps λb o e=>(d.bs b o e).1;have a:∀y∈ps.zip p,scope.names.lookup y.1=some .local\/(scope.names.lookup y.1=some .cell/\((cellsFrom (s.heap.objs.size+1) scope.names []).lookup y.1).isSome=true):=λ⟨n,v⟩ C=>by
  rcases S.par n (acC C).1 with q|q
  .exact .inl q
  .exact .inr ⟨q,acF _ _ _ (.inl q)⟩
 refine codeAny_call_function h.depth (KX _ _ lk) rfl S.co S.gen rfl (PySem.W.codeRec_of KX hcd) (z _ _ _ _ ?_);refine wpAny_newFunctionEnv_cells S.kind a λF G s1 x=>?_;subst G;refine⟨i.keeps x.toInCall.keep,codeAny_func ?_⟩;obtain⟨t,L,M⟩:=hbody A outer s H vs Q E (h.deeper _) l;have I:Inv (qG CX P w K mg base N qual scope f cdv A outer s H E) [] (start N vs) H s1:=CF S h.hd d B r x;refine aa6 (L [] s1 (start N vs) H _ I M) (λfl j c=>?_) λe j c=>c;have fin:∀{g:St} {H':Hp} {v:V} {u:Value},Inv (qG CX P w K mg base N qual scope f cdv A outer s H E) [] g H' j->RelV v u->Q v H'->CE outer P w H s Q u j:=
  λ{g H' v u} J rv q=>⟨v,H',J.os,J.bare,J.base,J.hok,rv,q⟩
 cases fl with
 |ret u=>
  obtain⟨v,g,H',J,rv,q⟩:=c;exact fin J rv q
 |next=>
  obtain⟨g,H',J,q⟩:=c;exact fin (v:=V.aD) (u:=Value.none) J rfl q
 |brk=>
  obtain⟨_,_,_,q⟩:=c;exact False.elim q
 |cont=>
  obtain⟨_,_,_,q⟩:=c;exact False.elim q
section
variable{X:Cx}{x:Str}{p pos:Pos}{e:Expr}{es:List Expr}{t:TA}{id T:String}{r:List V->Hp->VK->Prop}
noncomputable def MM(r:List V->Hp->VK->Prop)(t:TA):TE:=λσ H Q=>t σ H λa H1=>r a H1 Q
def vV (hc:gi X (.builtin id) r) (hg:Gl X x) (hm:X.mg x=none) (hv:bootBuiltins x=some (.builtin id)) (ha:PA X (e :: es) t) (hn:autoParam (x≠"__name__" ) zP._auto_1) (hdb:autoParam ((x==("__debug__" : Str))=false) zP._auto_1)
  (he:autoParam (starEach (e :: es) X.env=(false,eval e X.env) :: starEach es X.env) zb._auto_1) (hpl:autoParam ((backTo pos (starEach es X.env)).any (·.1)=false) zb._auto_1):PE X (.Call (.Name x p) (e :: es) [] pos) (MM r t):=by
 intro a s σ H Q I h;refine abu (kj I hg hm hv ?_ hn hdb);exact PyProof.Rows.callWith_builtin1 (bQ (ha pos a s σ H _ I h) λb s1 ⟨c,H1,I1,d,f⟩=>hc a s1 σ H1 c b Q I1 d f) he hpl
def uh (hc:gi X (.type T) r) (hg:Gl X x) (hm:X.mg x=none) (hv:bootBuiltins x=some (.type T)) (ha:PA X (e :: es) t) (hn:autoParam (x≠"__name__" ) zP._auto_1) (hdb:autoParam ((x==("__debug__" : Str))=false) zP._auto_1)
  (he:autoParam (starEach (e :: es) X.env=(false,eval e X.env) :: starEach es X.env) zb._auto_1) (hpl:autoParam ((backTo pos (starEach es X.env)).any (·.1)=false) zb._auto_1):PE X (.Call (.Name x p) (e :: es) [] pos) (MM r t):=by
 intro a s σ H Q I h;refine abu (kj I hg hm hv ?_ hn hdb);exact abc (bQ (ha pos a s σ H _ I h) λb s1 ⟨c,H1,I1,d,f⟩=>hc a s1 σ H1 c b Q I1 d f) he hpl
end
end L2
namespace HT
open PySem PyProof.Rows
section
variable{prog:Program}{w:World}{A:Around}{E:Value->Shared->Prop}{s:Shared}
def J4{t b:Addr}{vs ws:List Value}{Q:Value->Shared->Prop}(ht:IsTup s.heap t vs.toArray)(hb:IsTup s.heap b ws.toArray)(hv:vs≠[])
  (h1:ws=[]->Q (.ref t) s) (h2:ws≠[]->Q (.ref s.heap.objs.size) { s with heap:=s.heap.push { cls:=.type "tuple",data:=.seq (vs++ws).toArray }})
  (hsz:vs.length+ws.length<=sizeLine):wpAny (model prog w) A (binaryOp .Add (.ref t) (.ref b)) Q E s:=by
 obtain⟨⟨cls,dd,data,l⟩,h,o,n,p⟩:=id ht;obtain⟨⟨Wm,c,j,d⟩,a,f,n2,g⟩:=id hb;simp only at o p f g;subst o p f g;have e:vs.toArray++ws.toArray=(vs++ws).toArray:=by simp
 by_cases i:ws=[]
 .exact concat_meets ⟨_,h,rfl⟩ ⟨_,a,rfl⟩ acq seq_tuple_add abW abR (abN _ _)
   (tuple_addW1 t b vs.toArray ws.toArray n n2 dd c l d (by simpa using hv) (by simp[i])) ⟨h,a,h1 i⟩
 .refine concat_meets ⟨_,h,rfl⟩ ⟨_,a,rfl⟩ acq seq_tuple_add abW abR (abN _ _)
   (tuple_addW2 t b vs.toArray ws.toArray n n2 dd c l d (by simpa using hv) (by simpa using i) (by rw[Xm,Xm];exact hsz)) ⟨h,a,?_⟩
  rw[e];exact h2 i
noncomputable def bg(n d:Nat):Option Int->Nat
 |none=>d
 |some v=>if v<0 then (v+(n:Int)).toNat else min v.toNat n
def vW(n d:Nat)(hd:d<=n)(o:Option Int):bg n d o<=n:=by
 cases o with
 |none=>exact hd
 |some v=>
  show(if v<0 then (v+(n:Int)).toNat else min v.toNat n)<=n;by_cases a:v<0
  .rw[LV a];omega
  .rw[aaj a];exact Nat.min_le_right _ _
def zB(v:Int)(n d:Nat):(if v<0 then max (v+(n:Int)) 0 else min v (n:Int))=((bg n d (some v):Nat):Int):=by
 show(if v<0 then max (v+(n:Int)) 0 else min v (n:Int))=(((if v<0 then (v+(n:Int)).toNat else min v.toNat n):Nat):Int)
 by_cases a:v<0
 .simp only[LV a];omega
 .simp only[aaj a];omega
def Bg(lo hi:Option Int)(n:Nat):Builtin.Slice.sliceAdjust lo hi 1 (n:Int)=(((bg n 0 lo:Nat):Int),((bg n n hi:Nat):Int)):=by
 have a:¬ ((1:Int)<0):=by omega
 unfold Builtin.Slice.sliceAdjust;simp only[a,aaZ];refine Prod.ext ?_ ?_
 .cases lo with
  |none=>rfl
  |some v=>exact zB v n 0
 .cases hi with
  |none=>rfl
  |some v=>exact zB v n n
def Bh(i j:Nat):Builtin.Slice.slicePlaces (i:Int) (j:Int) 1=j - i:=by
 unfold Builtin.Slice.slicePlaces;have a:(1:Int) > 0:=by omega
 simp only[a,aax,Int.ediv_one];split<;>omega
def rE{v:Value}{o:Option Int}{Q:Option Int->Shared->Prop}(p:IsPart v o)(h:Q o s):wpAny (model prog w) A (Builtin.Slice.slicePartIndex v) Q E s:=by
 cases p with
 |none=>exact slicePart_none h
 |int i t=>exact slicePart_int h
def ko{sl:Addr}{vl vu:Value}{lo hi:Option Int}{n:Nat}{Q:Int×Int×Nat->Shared->Prop}(hs:s.heap.IsSliceOf sl vl vu .none)(pl:IsPart vl lo)(pu:IsPart vu hi)
  (h:Q (((bg n 0 lo:Nat):Int),1,bg n n hi - bg n 0 lo) s):wpAny (model prog w) A (Builtin.Slice.sliceApplied (.ref sl) (pure (n:Int))) Q E s:=by
 obtain⟨d,a,c,b⟩:=id hs;unfold Builtin.Slice.sliceApplied Builtin.Slice.sliceFields;refine gV (gV (aa7 a b (x:=vl) rfl (gV (aa7 a b (x:=vu) rfl (gV (aa7 a b (x:=.none) rfl (aaf ?_)))))));refine gV (slicePart_none ?_);show wpAny _ _ (if ((1:Int)==0)=true then _ else _) _ _ s;rw[aaj (by decide)];refine gV (rE pl (gV (rE pu (gV (aaf ?_)))));show wpAny _ _ (match Builtin.Slice.sliceAdjust lo hi 1 (n:Int)with | (lo,hi)=>pure (lo,(1:Int),Builtin.Slice.slicePlaces lo hi 1)) _ _ s;rw[Bg lo hi n];show wpAny _ _ (pure (((bg n 0 lo:Nat):Int),(1:Int),Builtin.Slice.slicePlaces ((bg n 0 lo:Nat):Int) ((bg n n hi:Nat):Int) 1)) _ _ s;rw[Bh];exact aaf h
def Fz(xs:Array Value)(i k:Nat):((List.range k).filterMap λ(m:Nat)=>xs[((i:Int)+(m:Int)*1).toNat]?).toArray=((xs.toList.drop i).take k).toArray:=by
 have e:(λ(m:Nat)=>xs[((i:Int)+(m:Int)*1).toNat]?)=λm=>xs[i+m]?:=by
  funext m
  have:((i:Int)+(m:Int)*1).toNat=i+m:=by omega
  rw[this]
 rw[e];have:=pick_run xs i k;rw[List.filterMap_map]at this;have a:((λx=>xs[x]?) ∘ λx=>i+x)=λm=>xs[i+m]?:=rfl;rw[a]at this;rw[this]
def qm{t sl:Addr}{items:Array Value}{vl vu:Value}{lo hi:Option Int}{Q:Value->Shared->Prop}(ht:IsTup s.heap t items)(hs:s.heap.IsSliceOf sl vl vu .none)(pl:IsPart vl lo)(pu:IsPart vu hi)
  (hw:¬ (bg items.size 0 lo=0/\bg items.size items.size hi=items.size))
  (h:Q (.ref s.heap.objs.size) { s with heap:=s.heap.push { cls:=.type "tuple",data:=.seq ((items.toList.drop (bg items.size 0 lo)).take (bg items.size items.size hi - bg items.size 0 lo)).toArray }})
  (hsz:items.size<=sizeLine):wpAny (model prog w) A (getItem (.ref t) (.ref sl)) Q E s:=by
 have a:sizeOk (.seq ((items.toList.drop (bg items.size 0 lo)).take (bg items.size items.size hi - bg items.size 0 lo)).toArray):=by
  show((items.toList.drop (bg items.size 0 lo)).take (bg items.size items.size hi - bg items.size 0 lo)).toArray.size<=sizeLine;rw[Xm,abA,abZ,abE];omega
 have g:bg items.size items.size hi<=items.size:=vW _ _ (aae _) hi;obtain⟨e,b,c,f⟩:=id hs;have MN:s.TypeIs (.ref sl) "slice" :=⟨e,b,c⟩
 unfold getItem;try with_reducible refine wpAny_holding ?_
 first|refine gV (aaf ?_)|skip
 refine gV (wpAny_sequenceKey ht.typeIs (by decide) ?_);refine gV (abq (name:=Str.ofString "__getitem__") ht.typeIs aa3
  (abm aa3 ht.typeIs entry_tuple_getitem ?_ (args_tuple_getitem _ _)))
 show wpAny _ _ (Builtin.Tuple.tupleItemsOf (.ref t) >>= _) _ _ s;refine gV (tupleItemsOf_ ht ?_);refine gV (acm MN ?_);rw[LV (by decide)];refine gV (ko hs pl pu ?_);have d:¬ ((((bg items.size 0 lo:Nat):Int)==0&&(1:Int)==1&&(bg items.size items.size hi - bg items.size 0 lo)==items.size)=true):=by
  intro q;rw[W2,W2]at q;have i:((bg items.size 0 lo:Nat):Int)=0:=eq_of_beq q.1.1;have j:bg items.size items.size hi - bg items.size 0 lo=items.size:=eq_of_beq q.2;exact hw ⟨by omega,by omega⟩
 show wpAny _ _ (if (((bg items.size 0 lo:Nat):Int)==0&&(1:Int)==1&&(bg items.size items.size hi - bg items.size 0 lo)==items.size)=true then _ else _) _ _ s;rw[aaj d,Fz];first
  |exact gV (m:=Builtin.Tuple.tupleExact _) (aaY (aaf ⟨_,rfl,aaf h⟩) a)
  |exact gV (m:=Builtin.Tuple.tupleExact _) (aaY (gV (aaf (aaf ⟨_,rfl,aaf h⟩))) a)
  |exact gV (gV (m:=Builtin.Tuple.tupleExact _) (aaY (aaf (aaf ⟨_,rfl,aaf h⟩)) a))
  |exact gV (gV (m:=Builtin.Tuple.tupleExact _) (aaY (aaf ⟨_,rfl,aaf h⟩) a))
end
end HT
namespace L2
open PySem PySem.Spec PyProof.Rows
abbrev TO:=St->Hp->(Option Int->Hp->Prop)->Prop
def PO(X:Cx)(e:Option Expr)(t:TO):Prop:=
 ∀(pins:List (Addr×Obj)) (s:Shared) (σ:St) (H:Hp) (Q:Option Int->Hp->Prop),Inv X pins σ H s->t σ H Q->
  wpAny (model X.prog X.w) X.A (evalPart e X.env) (λu a=>∃o H',Inv X pins σ H' a/\IsPart u o/\Q o H') X.xe s
noncomputable def J5:TO:=λ_ H Q=>Q none H
noncomputable def SK(t:TE):TO:=λσ H Q=>t σ H λx H1=>∃i,x=.int i/\Q (some i) H1
section
variable{X:Cx}{e:Expr}{te:TE}{lo hi:Option Expr}{tl th:TO}{pos p2:Pos}
def J6:PO X none J5:=by
 intro a s σ H Q I h;rw[evalPart_none];exact aaf ⟨none,H,I,.none,h⟩
def J7(h:PE X e te):PO X (some e) (SK te):=by
 intro a s σ H Q I hw;rw[evalPart_some];refine bQ (h a s σ H _ I hw) λu s1 zr=>?_;obtain⟨x,H1,I1,b,c⟩:=zr;obtain⟨i,rfl,q⟩:=c;obtain⟨t,rfl⟩:=b;exact⟨some i,H1,I1,.int i t,q⟩
def kR(X:Cx)(r:V->Option Int->Option Int->Hp->VK->Prop):Prop:=
 ∀(pins:List (Addr×Obj)) (s:Shared) (σ:St) (H:Hp) (x:V) (v vl vu:Value) (lo hi:Option Int) (sl:Addr) (Q:VK),Inv X pins σ H s->RelV x v->s.heap.IsSliceOf sl vl vu .none->IsPart vl lo->IsPart vu hi->r x lo hi H Q->
  ∃T id,typeLookup (.type T) "__getitem__" = pure (some (.builtin id))/\s.TypeIs v T/\wpAny (model X.prog X.w) X.A (getItem v (.ref sl)) (EP X pins σ Q) X.xe s
noncomputable def Xw(r:V->Option Int->Option Int->Hp->VK->Prop)(te:TE)(tl th:TO):TE:=λσ H Q=>te σ H λx H1=>tl σ H1 λl H2=>th σ H2 λu H3=>r x l u H3 Q
def FA{r:V->Option Int->Option Int->Hp->VK->Prop}(hr:kR X r)(he:PE X e te)(hl:PO X lo tl)(hu:PO X hi th):PE X (.Subscript e (.Slice lo hi none p2) pos) (Xw r te tl th):=by
 intro a s σ H Q I h;refine Subscript_ (bQ (he a s σ H _ I h) λv s1 ⟨x,H1,I1,f,g⟩=>?_);refine wpAny_Slice (bQ (hl a s1 σ H1 _ I1 g) λc s2 ⟨l,H2,I2,i,j⟩=>bQ (hu a s2 σ H2 _ I2 j) λd s3 ⟨u,H3,I3,o,p⟩=>?_);rw[evalPart_none];refine aaf ?_;have I4:Inv X a σ H3 { s3 with heap:=s3.heap.push { cls:=.type "slice",data:=.fields #[c,d,.none]}}:=I3.kept (t':=s3.toks) λb C q=>aac _ q;obtain⟨T,id,y,z,B⟩:=hr a { s3 with heap:=s3.heap.push { cls:=.type "slice",data:=.fields #[c,d,.none]}} σ H3 x v c d l u s3.heap.objs.size Q I4 f (Heap.IsSliceOf.new ..) i o p;show wpAny (model X.prog X.w) X.A (subscriptTail e (.Slice lo hi none p2) v (.ref s3.heap.objs.size)) (EP X a σ Q) X.xe { s3 with heap:=s3.heap.push { cls:=.type "slice",data:=.fields #[c,d,.none]}};exact tail_any (ops:=[.ref s3.heap.objs.size,v]) z y B (by with_unfolding_all rfl)
noncomputable def oF(xs:List V)(lo hi:Option Int):List V:=(xs.drop (HT.bg xs.length 0 lo)).take (HT.bg xs.length xs.length hi - HT.bg xs.length 0 lo)
def qp(xs:List V)(lo hi:Option Int):(oF xs lo hi).length<=xs.length:=by
 unfold oF;rw[abA,abZ];omega
def Wn(K:PySem.W.Frag):V->Option Int->Option Int->Hp->VK->Prop:=λx lo hi H Q=>∃a xs,x=.ref a/\dQ K H a xs/\
 ¬ (HT.bg xs.length 0 lo=0/\HT.bg xs.length xs.length hi=xs.length)/\∀p,H p=none->Q (.ref p) (upd H p (.tup (oF xs lo hi)))
def MO:kR X (Wn X.K):=by
 intro g s σ H x v vl vu lo hi sl Q I rx hs pl pu h;obtain⟨a,d,rfl,l,p,q⟩:=h;cases rx;obtain⟨f,r,i,j⟩:=I.tuple l;have c:f.toArray.size=d.length:=by rw[Xm];exact r.length.symm
 refine⟨"tuple",_,PyProof.Rows.slot_tuple_getitem.lookup,i.typeIs,?_⟩;refine HT.qm i hs pl pu (by rw[c];exact p) ?_ (by rw[c];exact j);rw[c];refine⟨.ref s.heap.objs.size,_,I.laid (t':=s.toks) (o:=.tup (oF d lo hi)) (λb y q=>aac _ q) (aae _) ?_,rfl,q _ (I.hok.fresh (aae _))⟩;exact⟨aas (qp d lo hi) j,_,(r.drop (HT.bg d.length 0 lo)).take (HT.bg d.length d.length hi - HT.bg d.length 0 lo),IsTup.new _ _⟩
noncomputable def SM(K:PySem.W.Frag):R2:=λx y H Q=>∃a b xs ys,x=.ref a/\y=.ref b/\dQ K H a xs/\dQ K H b ys/\xs≠[]/\xs.length+ys.length<=sizeLine/\
 (ys=[]->Q (.ref a) H)/\(ys≠[]->∀p,H p=none->Q (.ref p) (upd H p (.tup (xs++ys))))
def Vals.sY{xs:List V}{us:List Value}(r:Vals xs us):us=[]↔xs=[]:=by
 cases r with
 |nil=>simp
 |cons _ _=>simp
def J8:eg X (binaryOp .Add) (SM X.K):=by
 intro f s σ H x y v u Q I rx ry h;obtain⟨a,b,j,l,rfl,rfl,p,r,A,g,B,C⟩:=h;cases rx;cases ry;obtain⟨F,d,G,_⟩:=I.tuple p;obtain⟨i,c,p2,_⟩:=I.tuple r;refine HT.J4 G p2 (λz=>A (d.sY.mp z)) (λz=>⟨.ref a,H,I,rfl,B (c.sY.mp z)⟩) (λz=>?_) (by rw[<-d.length,<-c.length];exact g);refine⟨.ref s.heap.objs.size,_,I.laid (t':=s.toks) (o:=.tup (j++l)) (λb J q=>aac _ q) (aae _) ?_,rfl,C (λw=>z (c.sY.mpr w)) _ (I.hok.fresh (aae _))⟩;exact⟨by rw[aam];exact g,_,d.append c,IsTup.new _ _⟩
end
noncomputable def eV(n:Nat)(i:Int):Option Nat:=if 0<=i then (if i<n then some i.toNat else none)else if -(n:Int)<=i then some (i+n).toNat else none
noncomputable def bU{α:Type}(xs:List α)(i:Int):Option α:=(eV xs.length i).bind λj=>xs[j]?
def J9{n:Nat}{i:Int}{j:Nat}(h:eV n i=some j):seqIndex? i n=some j/\j<n/\-(n:Int)<=i/\i<n:=by
 unfold eV at h;by_cases b:0<=i
 .rw[LV b]at h;by_cases a:i<n
  .rw[LV a]at h;have e:i.toNat=j:=W0 h;exact⟨by rw[seqIndex_of b a,e],by omega,by omega,a⟩
  .rw[aaj a]at h;cases h
 .rw[aaj b]at h;by_cases a:-(n:Int)<=i
  .rw[LV a]at h;have e:(i+n).toNat=j:=W0 h;exact⟨by rw[seqIndex_neg (by omega) a,e],by omega,a,by omega⟩
  .rw[aaj a]at h;cases h
def sZ{α:Type}{xs:List α}{i:Int}{v:α}(h:bU xs i=some v):∃j,seqIndex? i xs.length=some j/\xs[j]?=some v/\j<xs.length/\-(xs.length:Int)<=i/\i<xs.length:=by
 unfold bU at h;cases e:eV xs.length i with
 |none=>rw[e]at h;cases h
 |some j=>
  rw[e]at h;obtain⟨a,b,c,d⟩:=J9 e;exact⟨j,a,h,b,c,d⟩
def zC{α:Type}{xs:List α}{j:Nat}{v:α}(h:xs[j]?=some v):bU xs (j:Int)=some v:=by
 have a:j<xs.length:=(List.getElem?_eq_some_iff.mp h).1;have e:eV xs.length (j:Int)=some j:=by
  unfold eV;rw[LV (by omega),LV (by omega)];simp
 unfold bU;rw[e];exact h
def zE(b:Expr):Prop:=∀o i,subscripted b false o i=operate [o,i] (getItem o i)
def zF(X:Cx)(r:R2):Prop:=
 ∀(value slice:Expr) (pins:List (Addr×Obj)) (s:Shared) (σ:St) (H:Hp) (x y:V) (v u:Value) (Q:VK),Inv X pins σ H s->RelV x v->RelV y u->r x y H Q->
  subscripted slice false v u=operate [v,u] (getItem v u)->wpAny (model X.prog X.w) X.A (subscriptTail value slice v u) (EP X pins σ Q) X.xe s
def rF(X:Cx)(id:String)(r:V->List V->Hp->VK->Prop):Prop:=
 ∀(pins:List (Addr×Obj)) (s:Shared) (σ:St) (H:Hp) (x:V) (xs:List V) (v:Value) (us:List Value) (Q:VK),Inv X pins σ H s->RelV x v->Vals xs us->r x xs H Q->
  wpAny (model X.prog X.w) X.A (call (.builtin id) (v :: us)) (EP X pins σ Q) X.xe s
section
variable{X:Cx}{a b:Expr}{ta tb:TE}{pos:Pos}
def SN{r:R2}(hr:zF X r)(ha:PE X a ta)(hb:PE X b tb)(hs:zE b):PE X (.Subscript a b pos) (CB r ta tb):=by
 intro c s σ H Q I h;exact Subscript_ (Fv ha hb I h λv u s2 x y H2 I2 d e q=>hr a b c s2 σ H2 x y v u Q I2 d e q (hs _ _))
noncomputable def Wo(K:PySem.W.Frag):R2:=λx y H Q=>∃p xs i v,x=.ref p/\y=.int i/\fQ K H p xs/\bU xs i=some v/\Q v H
noncomputable def Wq(K:PySem.W.Frag):R2:=λx y H Q=>∃p xs i v,x=.ref p/\y=.int i/\dQ K H p xs/\bU xs i=some v/\Q v H
noncomputable def Wr:R2:=λx y H Q=>∃z i c,x=.str z/\y=.int i/\z.length<=sizeLine/\bU z.cps.toList i=some c/\Q (.str ⟨#[c]⟩) H
def Ka:zF X (Wo X.K):=by
 intro e f c s σ H x y v u Q I rx ry h hs;obtain⟨p,W,i,z,rfl,rfl,F,G,q⟩:=h;cases rx;obtain⟨t,rfl⟩:=ry;obtain⟨g,r,l,Y⟩:=I.list F;obtain⟨j,d,J,Z,L,M⟩:=sZ G;obtain⟨w,B,o⟩:=r.get J;have N:=r.length;have hn:=mh;have fin:EP X c σ Q w s:=⟨z,H,I,o,q⟩
 by_cases C:0<=i
 .have A:i.toNat=j:=by
   rw[seqIndex_of C M]at d;exact W0 d
  exact item_listR l.isList C (by omega) (by rw[A];simpa using B) fin hs
 .have A:(i+(g.toArray.size:Int)).toNat=j:=by
   rw[seqIndex_neg (by omega) L]at d;rw[Xm,<-N];exact W0 d
  exact subscriptTail_builtinR (x:=w) l.isList.typeIs slot_list_getitem.lookup
   (wpAny_getItem_list_neg (Q:=λr P=>r=w/\EP X c σ Q r P) l.isList (by omega) (by rw[Xm]<;>omega) (by omega) (by rw[A];simpa using B) ⟨rfl,fin⟩) hs
def MP:zF X (Wq X.K):=by
 intro d e c s σ H x y v u Q I rx ry h hs;obtain⟨p,L,i,z,rfl,rfl,l,o,q⟩:=h;cases rx;obtain⟨t,rfl⟩:=ry;obtain⟨A,r,g,M⟩:=I.tuple l;obtain⟨j,B,C,N,P,W⟩:=sZ o;obtain⟨w,F,f⟩:=r.get C;have G:=r.length;have Y:=mh;have fin:EP X c σ Q w s:=⟨z,H,I,f,q⟩
 exact subscriptTail_builtinR (x:=w) g.typeIs slot_tuple_getitem.lookup
  (getItem_tuple (j:=j) (Q:=λr J=>r=w/\EP X c σ Q r J) g (by omega) (by omega) (by rw[Xm,<-G];exact B) (by simpa using F) ⟨rfl,fin⟩) hs
def MQ:zF X Wr:=by
 intro d e f s σ H x y v u Q I rx ry h hs;obtain⟨z,i,c,rfl,rfl,F,l,q⟩:=h;obtain⟨t,rfl⟩:=rx;obtain⟨G,rfl⟩:=ry;obtain⟨j,g,o,J,p,r⟩:=sZ l;have A:z.cps.toList.length=z.length:=by simp[Str.length]
 rw[A]at g p r;have K:=mh;exact tail_any (typeIs_str s z t) slot_str_getitem.lookup (getItem_str (c:=c) (by
  have B:decide (i < -(2 ^ 63:Int))=false:=aav (by omega);have C:decide (i≥2 ^ 63)=false:=aav (by omega);rw[B,C,Bool.or_false]) (by rw[g];simpa using o) ⟨.str ⟨#[c]⟩,H,I.tok _,⟨_,rfl⟩,q⟩) hs
def vX(lo hi:Option Int)(n:Nat):(sliceBounds lo hi none n).1=((HT.bg n 0 lo:Nat):Int)/\(sliceBounds lo hi none n).2.1=((HT.bg n n hi:Nat):Int)/\(sliceBounds lo hi none n).2.2=1:=by
 refine⟨?_,?_,rfl⟩
 .cases lo with
  |none=>simp[sliceBounds,HT.bg]
  |some i=>
   simp only[sliceBounds,HT.bg,Option.getD_none,show(1:Int) > 0 by decide,aax];by_cases h:i<0
   .simp only[h,aax]<;>omega
   .simp only[h,aaZ]<;>omega
 .cases hi with
  |none=>simp[sliceBounds,HT.bg]
  |some i=>
   simp only[sliceBounds,HT.bg,Option.getD_none,show(1:Int) > 0 by decide,aax];by_cases h:i<0
   .simp only[h,aax]<;>omega
   .simp only[h,aaZ]<;>omega
def vc(its:List Value)(lo hi:Option Int):slicePick its.toArray lo hi none=((its.drop (HT.bg its.length 0 lo)).take (HT.bg its.length its.length hi - HT.bg its.length 0 lo)).toArray:=by
 obtain⟨c,d,e⟩:=vX lo hi its.toArray.size;unfold slicePick;rw[c,d,e];simp only[sliceRange_one,pick_run,Xm]<;>rfl
def Ws(K:PySem.W.Frag):V->Option Int->Option Int->Hp->VK->Prop:=λx c d H Q=>∃a xs,x=.ref a/\fQ K H a xs/\∀p,H p=none->Q (.ref p) (upd H p (.lst (oF xs c d)))
def Kc:kR X (Ws X.K):=by
 intro e s σ H x v vl vu lo hi sl Q I rx hs pl pu h;obtain⟨a,c,rfl,g,q⟩:=h;cases rx;obtain⟨i,r,f,j⟩:=I.list g;have d:=r.length;refine⟨"list",_,slot_list_getitem.lookup,f.isList.typeIs,?_⟩;refine wpAny_getItem_list_slice f.isList hs pl pu .none (by simp) ?_ (by rw[Xm]<;>omega);rw[vc,<-d];refine⟨.ref s.heap.objs.size,_,I.laid (t':=s.toks) (o:=.lst (oF c lo hi)) (λb l q=>aac _ q) (aae _) ?_,rfl,q _ (I.hok.fresh (aae _))⟩;exact⟨aas (qp c lo hi) j,_,0,(r.drop (HT.bg c.length 0 lo)).take (HT.bg c.length c.length hi - HT.bg c.length 0 lo),aat _ rfl⟩
noncomputable def vh:V->Bool
 |.aD=>true
 |.bl _=>true
 |.int _=>true
 |.str _=>true
 |_=>false
def oG:gi X (.builtin "len") (λxs H Q=>∃p ys,xs=[.ref p]/\(fQ X.K H p ys\/dQ X.K H p ys)/\Q (.int ys.length) H):=by
 intro i s σ H xs us Q I r h;obtain⟨p,ys,rfl,d,q⟩:=h;obtain⟨u,rfl,j⟩:=vals1 r;cases j;have o:=mh;rcases d with d|d
 .obtain⟨e,f,g,l⟩:=I.list d;have c:=f.length;exact Calls.call_len_list g.isList (by simp only[Xm]<;>omega) ⟨.int ys.length,H,I.tok _,⟨s.toks+1,by rw[Xm,c]⟩,q⟩
 .obtain⟨e,f,g,l⟩:=I.tuple d;have c:=f.length;exact len_tuple g (by simp only[Xm]<;>omega) ⟨.int ys.length,H,I.tok _,⟨s.toks+1,by rw[Xm,c]⟩,q⟩
def vY:gi X (.builtin "len") (λxs H Q=>∃z,xs=[.str z]/\z.length<=sizeLine/\Q (.int z.length) H):=by
 intro c s σ H xs us Q I r h;obtain⟨z,rfl,d,q⟩:=h;obtain⟨u,rfl,t,rfl⟩:=vals1 r;have e:=mh;exact abC (by omega) ⟨.int z.length,H,I.tok _,⟨_,rfl⟩,q⟩
def nM:gi X (.type "tuple") (λxs H Q=>∃p ys,xs=[.ref p]/\((fQ X.K H p ys/\∀l,H l=none->Q (.ref l) (upd H l (.tup ys)))\/(dQ X.K H p ys/\Q (.ref p) H))):=by
 intro c s σ H xs us Q I r h;obtain⟨p,ys,rfl,h⟩:=h;obtain⟨u,rfl,z⟩:=vals1 r;cases z;rcases h with ⟨g,q⟩|⟨g,q⟩
 .obtain⟨d,i,j,x⟩:=I.list g;have y:=i.length;refine call_tuple_list j.isList (λf kp=>?_) (by simp only[Xm]<;>omega);have I1:Inv X c σ H { s with heap:=f }:=I.kept (t':=s.toks) kp;have I2:Inv X c σ (upd H f.objs.size (.tup ys)) { s with heap:=f.push { cls:=.type "tuple",data:=.seq d.toArray }}:=
   I1.laid (t':=s.toks) (λb o e=>aac _ e) (aae _) (show dJ X.prog X.w _ _ _ (.tup ys)from ⟨x,d,i,IsTup.new _ _⟩)
  exact⟨.ref f.objs.size,_,I2,rfl,q _ (I1.hok.fresh (aae _))⟩
 .obtain⟨d,i,j,x⟩:=I.tuple g;exact call_tuple_same j ⟨.ref p,H,I,rfl,q⟩
def CH(K:PySem.W.Frag)(T:String)(x:V)(H:Hp):Prop:=match x with
 |.str _=>T = "str"
 |.int _=>T = "int"
 |.ref p=>(T = "list" /\∃xs,fQ K H p xs)\/(T = "tuple" /\∃o,K.lookup p=some o/\o.cls=.type "tuple" /\o.dict=none)\/
   (T = "dict" /\((∃kvs,H p=some (.dK kvs))\/∃kvs,H p=some (.dT kvs)))\/(T = "set" /\∃S n,H p=some (.set S n))
 |_=>False
def CJ{pins:List (Addr×Obj)}{σ:St}{H:Hp}{s:Shared}{T:String}{x:V}{v:Value}(I:Inv X pins σ H s)(r:RelV x v)(ty:CH X.K T x H) :
  s.TypeIs v T/\∀a,v=.ref a->∃ob,s.heap.get? a=some ob/\ob.dict=none:=by
 cases x with
 |str z=>
  obtain⟨t,rfl⟩:=r;cases (show T = "str" from ty);exact⟨typeIs_str s z t,λ_ e=>nomatch e⟩
 |int i=>
  obtain⟨t,rfl⟩:=r;cases (show T = "int" from ty);exact⟨ach s i t,λ_ e=>nomatch e⟩
 |ref p=>
  cases r;rcases ty with ⟨rfl,y,j⟩|⟨rfl,o,d,l,f⟩|⟨rfl,d⟩|⟨rfl,S,n,d⟩
  .obtain⟨q,_,h,_⟩:=I.list j;refine⟨h.isList.typeIs,λa e=>?_⟩;cases e;obtain⟨o,n,e,c,f,_⟩:=h;exact⟨o,e,f⟩
  .refine⟨⟨o,I.t8 p o d,l⟩,λa e=>?_⟩;cases e;exact⟨o,I.t8 _ o d,f⟩
  .have z:∃o,s.heap.get? p=some o/\o.ExactDict:=by
    rcases d with ⟨kvs,d⟩|⟨kvs,d⟩
    .obtain⟨_,_,_,_,o,_,_,e,ex,_⟩:=I.hok p _ d;exact⟨o,e,ex⟩
    .obtain⟨_,_,_,_,o,_,_,e,ex,_⟩:=I.hok p _ d;exact⟨o,e,ex⟩
   obtain⟨o,e,ex⟩:=z;refine⟨⟨o,e,ex.1⟩,λa g=>?_⟩;cases g;exact⟨o,e,ex.2.1⟩
  .obtain⟨o,_,_,_,e,ex,_⟩:=I.hok p _ d;refine⟨⟨o,e,ex.1⟩,λa g=>?_⟩;cases g;exact⟨o,e,ex.2.1⟩
 |_=>exact False.elim ty
noncomputable def Wt(K:PySem.W.Frag)(T:String)(r:V->List V->Hp->VK->Prop)(to:TE):TE:=λσ H Q=>to σ H λx H1=>CH K T x H1/\r x [] H1 Q
noncomputable def Xx(K:PySem.W.Frag)(T:String)(r:V->List V->Hp->VK->Prop)(to:TE)(t:TA):TE:=λσ H Q=>to σ H λx H1=>CH K T x H1/\t σ H1 λc H2=>r x c H2 Q
variable{o e:Expr}{es:List Expr}{to:TE}{t:TA}{name:Str}{apos cpos:Pos}{T id:String}{r:V->List V->Hp->VK->Prop}
def MR (pa:PlainAttrs T) (slot:Slot T name id) (hty:typeOf (.builtin id)=pure (.type "method_descriptor")) (hm:rF X id r) (ho:PE X o to)
  (hbase:autoParam (attributeBase o name X.env (eval o X.env)=eval o X.env) zb._auto_1) (hline:autoParam ((apos.endLine==cpos.line)=true) zb._auto_1):PE X (.Call (.Attribute o name apos) [] [] cpos) (Wt X.K T r to):=by
 intro c s σ H Q I h;refine wpAny_Call_method0_late hbase hline (bQ (ho c s σ H _ I h) λv s1 zr=>?_);obtain⟨x,H1,I1,d,ty,f⟩:=zr;obtain⟨g,i⟩:=CJ I1 d ty;exact⟨T,id,pa,slot,hty,g,i,Calls.callWith_builtin rfl (PySem.evalArgs_none (hm c s1 σ H1 x [] v [] Q I1 d .nil f))⟩
def SQ (pa:PlainAttrs T) (slot:Slot T name id) (hty:typeOf (.builtin id)=pure (.type "method_descriptor")) (hm:rF X id r) (ho:PE X o to) (ha:PA X (e :: es) t)
  (hbase:autoParam (attributeBase o name X.env (eval o X.env)=eval o X.env) zb._auto_1)
  (hfew:autoParam (((backTo cpos (starEach (e :: es) X.env)).all (λx=>!x.1)&&(backToKw cpos (keywordEach [] X.env)).all (λx=>x.1.isSome)
   &&decide ((e :: es).length+([]:List Keyword).length+(if ([]:List Keyword).isEmpty then 0 else 1)<30))=true) zb._auto_1)
  (hline:autoParam ((apos.endLine==cpos.line)=true) zb._auto_1) (hs:autoParam (starEach (e :: es) X.env=(false,eval e X.env) :: starEach es X.env) zb._auto_1) (hplain:autoParam ((backTo cpos (starEach es X.env)).any (·.1)=false) zb._auto_1) :
  PE X (.Call (.Attribute o name apos) (e :: es) [] cpos) (Xx X.K T r to t):=by
 intro c s σ H Q I h;refine wpAny_Call_method_late hbase hfew hline rfl (bQ (ho c s σ H _ I h) λv s1 zr=>?_);obtain⟨x,H1,I1,d,ty,g⟩:=zr;obtain⟨i,j⟩:=CJ I1 d ty;refine⟨T,id,pa,slot,hty,i,j,?_⟩;have f:=ha cpos c s1 σ H1 _ I1 g;rw[hs]at f ⊢;refine Calls.callWith_builtin (by show(false || (backTo cpos (starEach es X.env)).any (·.1))=false;rw[hplain]<;>rfl) (Calls.evalArgs_plain ?_);exact bQ f λl s2 ⟨p,H2,I2,q,y⟩=>hm c s2 σ H2 x p v l Q I2 d q y
end
def MS(X:Cx)(id:String)(r:V->List V->Hp->VK->Prop):Prop:=
 ∀(pins:List (Addr×Obj)) (s:Shared) (σ:St) (H:Hp) (x:V) (xs:List V) (v:Value) (us:List Value) (Q:VK),Inv X pins σ H s->RelV x v->Vals xs us->r x xs H Q->
  wpAny (model X.prog X.w) X.A (call (.builtin id) (v :: us)) (EP X pins σ Q) X.xe s
def Vals.one:∀{x:V}{us:List Value},Vals [x] us->∃u,us=[u]/\RelV x u
 |_,_,.cons r .nil=>⟨_,rfl,r⟩
def Vals.zero:∀{us:List Value},Vals [] us->us=[]
 |_,.nil=>rfl
theorem Vals.dropLast{xs:List V}{us:List Value}(h:Vals xs us):Vals xs.dropLast us.dropLast:=by
 induction h with
 |nil=>exact .nil
 |cons r t a=>
  cases t with
  |nil=>exact .nil
  |cons q b=>exact .cons r a
theorem Vals.reverse{xs:List V}{us:List Value}(h:Vals xs us):Vals xs.reverse us.reverse:=by
 induction h with
 |nil=>exact .nil
 |cons r t a=>rw[aaw,aaw];exact Vals.append a (.cons r .nil)
theorem Vals.rep{xs:List V}{us:List Value}(h:Vals xs us):∀k:Nat,Vals (List.replicate k xs).flatten (List.replicate k us).flatten
 |0=>.nil
 |k+1=>by
  rw[aak,aak,abg,abg];exact Vals.append h (Vals.rep h k)
def Bj{α:Type}(l:List α):l.eraseIdx (l.length - 1)=l.dropLast:=by
 induction l with
 |nil=>rfl
 |cons a r c=>
  cases r with
  |nil=>rfl
  |cons b r=>
   have e:(a :: b :: r).length - 1=((b :: r).length - 1)+1:=by
    have d:(a :: b :: r).length=r.length+2:=rfl;have f:(b :: r).length=r.length+1:=rfl;omega
   rw[e,List.eraseIdx_cons_succ,c];all_goals rfl
theorem foldl_rep(its:List Value):∀(k:Nat) (acc:List Value),
  List.foldl (λx1 x2=>x1++x2) acc.toArray (List.replicate k its.toArray)=(acc++(List.replicate k its).flatten).toArray
 |0,acc=>by simp
 |k+1,acc=>by
  have e:acc.toArray++its.toArray=(acc++its).toArray:=by simp
  have a:(acc++its)++(List.replicate k its).flatten=acc++(List.replicate (k+1) its).flatten:=by
   rw[aak,abg,aaO]
  rw[<-a,<-foldl_rep its k (acc++its),<-e,aak,aaL]
section
variable{X:Cx}{pins:List (Addr×Obj)}{σ:St}{H:Hp}{s:Shared}{l:Addr}{xs ys:List V}
def Inv.FD{its its':List Value}{n:Nat}{f:Array Value->Array Value}{t':Nat}(I:Inv X pins σ H s)(hH:H l=some (.lst xs))
  (e:s.heap.get? l=some { cls:=.type "list",data:=.seq its.toArray n }) (hf:f its.toArray=its'.toArray) (hv:Vals ys its') (hz:ys.length<=sizeLine) :
  Inv X pins σ (upd H l (.lst ys)) { s with heap:=s.heap.update l (Obj.mapSeq f),toks:=t' }:=by
 have q:=PySem.IsL.update e f;rw[hf]at q;refine I.write (x:=l) (e:=l) (by rw[hH];exact trivial) (.inl rfl) (λc u a b=>(abw s.heap (Obj.mapSeq f) (abk a)).trans b) ⟨_,q⟩ ?_;exact⟨hz,its',_,hv,q⟩
def Inv.FE{its:List Value}{t':Nat}(I:Inv X pins σ H s)(hv:Vals ys its)(hz:ys.length<=sizeLine) :
  Inv X pins σ (upd H s.heap.objs.size (.lst ys)) { s with heap:=s.heap.push { cls:=.type "list",data:=.seq its.toArray },toks:=t' }:=
 I.laid (λ_ _ q=>aac _ q) (aae _) ⟨hz,its,0,hv,aat _ rfl⟩
theorem Inv.fresh(I:Inv X pins σ H s):H s.heap.objs.size=none:=I.hok.fresh (aae _)
def Inv.qH (I:Inv X pins σ H s) (hH:H l=some (.lst xs)):xs.length<=sizeLine/\∃(its:List Value) (n:Nat),Vals xs its/\xs.length=its.length/\s.heap.get? l=some { cls:=.type "list",data:=.seq its.toArray n }:=by
 obtain⟨z,its,n,r,e⟩:=I.hok l _ hH;exact⟨z,its,n,r,r.length,e⟩
def vZ{n:Nat}(h:n<=sizeLine):Builtin.List.listTooLong n=false:=by
 unfold Builtin.List.listTooLong;exact aav (by omega)
end
section
variable{X:Cx}
def Kd:V->List V->Hp->VK->Prop:=λx a H Q=>∃l xs y,x=.ref l/\a=[y]/\H l=some (.lst xs)/\xs.length<sizeLine/\Q .aD (upd H l (.lst (xs++[y])))
def um:MS X "list.append" Kd:=by
 intro b s σ H x vs v us Q I rx rv h;obtain⟨l,f,y,rfl,rfl,c,g,q⟩:=h;cases rx;obtain⟨u,rfl,d⟩:=rv.one;obtain⟨z,a,n,r,i,e⟩:=I.qH c;refine abr F.slot_list_append ⟨_,e,rfl⟩ F.entry_list_append (F.args_list_append_2 _ _) (PySem.list_append l a.toArray n u (by rw[Xm];omega)) ⟨e,?_⟩;refine⟨.aD,_,I.FD (its':=a++[u]) c e (by simp) (r.append (.cons d .nil)) ?_,rfl,q⟩;rw[aam,aaH];omega
def Ke:V->List V->Hp->VK->Prop:=λx a H Q=>∃l b xs zs,x=.ref l/\a=[.ref b]/\H l=some (.lst xs)/\H b=some (.lst zs)/\xs.length+zs.length<=sizeLine/\Q .aD (upd H l (.lst (xs++zs)))
def CK:MS X "list.extend" Ke:=by
 intro f s σ H x vs v us Q I rx rv h;obtain⟨l,b,A,B,rfl,rfl,g,i,C,q⟩:=h;cases rx;obtain⟨u,rfl,j⟩:=rv.one;cases j;obtain⟨z,c,n,r,G,e⟩:=I.qH g;obtain⟨J,a,n2,o,p,y⟩:=I.qH i;have d:c.toArray.size+a.toArray.size<=sizeLine:=by rw[Xm,Xm];omega
 have Bk:¬ (!c.toArray.isEmpty&&Builtin.List.listTooLong (c.toArray.size+a.toArray.size))=true:=by
  rw[vZ d,Bool.and_false];exact abb
 refine abr F.slot_list_extend ⟨_,e,rfl⟩ F.entry_list_extend (F.args_list_extend_2 _ _)
  (AutoSeq1.list_extend_list_list_0 l c.toArray n b a.toArray n2 Bk (by rw[Xm];omega) (by omega)) ⟨e,y,?_⟩
 refine⟨.aD,_,I.FD (its':=c++a) g e (by simp) (r.append o) ?_,rfl,q⟩;rw[aam];omega
def Wu:V->List V->Hp->VK->Prop:=λx a H Q=>∃l xs y,x=.ref l/\a=[]/\H l=some (.lst xs)/\xs[xs.length - 1]?=some y/\Q y (upd H l (.lst xs.dropLast))
def MT:MS X "list.pop" Wu:=by
 intro c s σ H x vs v us Q I rx rv h;obtain⟨l,o,y,rfl,rfl,d,f,q⟩:=h;cases rx;have Xy:=rv.zero;subst Xy;obtain⟨z,a,n,r,g,e⟩:=I.qH d;obtain⟨u,i,j⟩:=r.get f;have b:a.toArray[a.toArray.size - 1]?=some u:=by
  show a.toArray[a.length - 1]?=some u;rw[<-Array.getElem?_toList,<-g];exact i
 refine abr F.slot_list_pop ⟨_,e,rfl⟩ F.entry_list_pop (F.args_list_pop_1 _) (MeetsSeq.list_pop_last l a.toArray n u b (by rw[Xm];omega)) ⟨e,?_⟩;refine⟨y,_,I.FD (its':=a.dropLast) d e ?_ r.dropLast ?_,j,q⟩
 .show a.toArray.eraseIdxIfInBounds (a.toArray.size - 1)=a.dropLast.toArray;rw[Xm,List.eraseIdxIfInBounds_toArray,Bj]
 .rw[List.length_dropLast];omega
noncomputable def Wv:R2:=λx y H Q=>∃l b xs zs,x=.ref l/\y=.ref b/\H l=some (.lst xs)/\H b=some (.lst zs)/\xs.length+zs.length<=sizeLine/\∀p,H p=none->Q (.ref p) (upd H p (.lst (xs++zs)))
def MU:eg X (binaryOp .Add) Wv:=by
 intro d s σ H x y v u Q I rx ry h;obtain⟨l,b,A,B,rfl,rfl,f,g,C,q⟩:=h;cases rx;cases ry;obtain⟨z,c,n,r,F,e⟩:=I.qH f;obtain⟨G,a,n2,i,j,o⟩:=I.qH g;refine PySem.P.add_list e o ?_ (by rw[Xm,Xm];omega);have p:c.toArray++a.toArray=(c++a).toArray:=by simp
 rw[p];exact⟨.ref _,_,I.FE (t':=s.toks) (r.append i) (by rw[aam];omega),rfl,q _ I.fresh⟩
noncomputable def Ww:R2:=λx y H Q=>∃l k xs,x=.ref l/\y=.int k/\H l=some (.lst xs)/\-(2 ^ 63)<=k/\k<2 ^ 63/\xs.length*k.toNat<=sizeLine/\
 ∀p,H p=none->Q (.ref p) (upd H p (.lst (List.replicate k.toNat xs).flatten))
def len_rep{α:Type}(xs:List α)(k:Nat):(List.replicate k xs).flatten.length=k*xs.length:=by
 induction k with
 |zero=>simp
 |succ k a=>rw[aak,abg,aam,a,Nat.succ_mul,abx]
def MV:eg X (binaryOp .Mult) Ww:=by
 intro o s σ H x y v u Q I rx ry h;obtain⟨l,k,K,rfl,rfl,A,B,C,p,q⟩:=h;cases rx;obtain⟨t,rfl⟩:=ry;obtain⟨z,b,n,r,G,e⟩:=I.qH A;have c:b.toArray.size*k.toNat<=sizeLine:=by rw[Xm,<-G];exact p
 have d:¬ b.toArray.size*k.toNat > (2 ^ 63 - 1) / 8:=by
  have:(sizeLine:Nat)<=(2 ^ 63 - 1) / 8:=by decide
  omega
 have f:¬ (!Builtin.List.listFitsIndex k)=true:=by
  rw[fitsIndex_both B C];exact abb
 have Bk:¬ Builtin.List.listTooLong (b.toArray.size*k.toNat)=true:=by
  rw[vZ c];exact abb
 have g:List.foldl (λi j=>i++j) #[] (List.replicate (if b.toArray.isEmpty=true then 0 else k.toNat) b.toArray)=(List.replicate k.toNat b).flatten.toArray:=by
  have f0:∀m:Nat,List.foldl (λi j=>i++j) #[] (List.replicate m b.toArray)=(List.replicate m b).flatten.toArray:=λm=>by
   have:=foldl_rep b m [];rw[acD]at this;exact this
  rw[f0];cases b with
  |nil=>simp
  |cons a L=>rw[aaj (by simp)]
 refine aci (T:="list") (U:="int") (by decide) ⟨_,e,rfl⟩ (λJ=>ach J k t) noFill_list_mul F.fills_int_mul F.slot_int_rmul repeat_list F.slot_int_index.lookup
  (abr F.slot_int_rmul (ach s k t) F.entry_int_rmul (F.args_int_rmul_2 _ _) (int___rmul___int_list k t l b.toArray n)
   ⟨e,rfl,⟨_,e,rfl⟩,abr F.slot_list_mul ⟨_,e,rfl⟩ F.entry_list_mul (F.args_list_mul_2 _ _) (AutoListH.list___mul___list_int_3 l b.toArray n k t f d Bk) ⟨e,?_⟩⟩)
 rw[g];exact⟨.ref _,_,I.FE (t':=s.toks) (r.rep k.toNat) (by rw[len_rep,Nat.mul_comm];exact p),rfl,q _ I.fresh⟩
end
end L2
namespace UG
open PySem PySem.W PySem.Calls PyProof.Rows
def rG{P:Params}{h:Heap}:∀(ns:List Int) (vs:List Value),WellAll P h vs (ns.map WData.int)->IntsAre vs ns:=by
 intro ns;induction ns with
 |nil=>
  intro vs w;rw[aco]at w;cases w;exact .nil
 |cons n ns c=>
  intro vs w;rw[aai]at w;cases w with
  |cons a b=>
   cases a;exact .cons _ _ (c _ b)
def CL{l:OpenLaw}{n:Nat}(hn:l.most=some n){P:Params}{h:Heap}{args:List WData}{vals:List Value}
  (hpre:l.row.toRowW.claim.pre args=true) (hwl:WellAll P h vals args) :
  ∃a vs ns,vals=[Value.ref a]/\args=[WData.list (ns.map WData.int)]/\h.get? a=some { cls:=.type "list",data:=.seq vs.toArray }/\IntsAre vs ns/\ns.length<=n:=by
 have g:WShape.hasAll [] args [.list .int]=true:=(pre_splitW hpre).1;have i:l.pre.holds [] { args:=args }=true:=(pre_splitW hpre).2;obtain⟨d,r,rfl,j,o⟩:=hasAllW_cons g;obtain rfl:=hasAllW_nil o;obtain⟨B,rfl,p⟩:=hasW_list j;obtain⟨ns,rfl⟩:=items_int p;have b:ns.length<=n:=by
  unfold OpenLaw.pre at i;have e:(WTm.not (.lt (.lit (.int (n:Int))) (.len (.arg 0)))).holds [] { args:=[.list (ns.map .int)]}=true:=by
   have e:=(holds_andW i).1;rw[hn]at e;exact e
  have f:=condW_of e (w_not (w_lt w_lit (w_len_list (w_arg rfl))));rw[aaq]at f;refine Nat.le_of_not_lt λq=>?_;have x:(n:Int)<((ns.length:Nat):Int):=by omega
  first
   | (rw[aaV x]at f;exact absurd f (by decide))
   | (simp at f;omega)
 cases hwl with
 |cons y z=>
  cases z;cases y with
  |list A c=>exact⟨_,_,ns,rfl,rfl,A,rG ns _ c,b⟩
def CM(l:OpenLaw)(args:List WData):l.row.toRowW.claim.post args (.bool true) args=true:=
 postW_of (r:=l.row.toRowW) (X:=(true==true))
  (show WShape.has [] (.bool true) .bool=true by first|rfl|decide|simp[WShape.has,WShape.arms,WShape.armsAll])
  (show(WTm.eq .res (.lit (.bool true))).value [] { args:=args,res:=some (.bool true),after:=args }=some (.bool (true==true))from w_eq_bool (w_res rfl) w_lit) rfl
def zg{l:OpenLaw}{n:Nat}{q:Program}{loose:List Str}{XP:(Str->Option Value)->Heap->Prop}{YP:World->Heap->Prop}{d:DefRec}
  (hn:l.most=some n) (hdf:d.params.defaults=[])
  (call:∀(w:World) (s₀ s₁:Shared) (mg mb:Str->Option Value) (fa:Addr) (o:Obj) (pm cd doc:Value) (a:Addr) (vs:List Value) (ns:List Int),
   Ground q loose [] XP w s₀ mg mb s₁.heap->YP w s₁.heap->
   s₁.heap.get? fa=some o->o.data=.func (docDef d.name d.params d.body d.scope pm cd doc)->s₁.heap.CodeRec cd d.name->mg d.name=some (.ref fa)->
   s₁.heap.get? a=some { cls:=.type "list",data:=.seq vs.toArray }->IntsAre vs ns->ns.length<=n->s₁.gens = #[]->
   codeAny (model l.prog w) callerA (.call (.ref fa) ⟨[.ref a],[]⟩) (λr s'=>r=.ok (.ret (.bool true))/\OldK s₁.heap s'.heap/\s'.os=s₁.os/\AllBare s'.gens) s₁) :
  WalkO q loose XP YP l.row.toRowW d [] (λf vs=>PySem.call f vs):=by
 intro w s₀ s₁ mg mb G Y fa o pm cd doc z kV A B h p i C args x N c y F j H;obtain rfl:z=.none:=Dflts.none p hdf;obtain rfl:kV=.none:=Dflts.noKw p;obtain⟨a,vs,ns,rfl,rfl,e,b,g⟩:=CL hn c j;refine enter_call (acn (call w s₀ s₁ mg mb fa o pm cd doc a vs ns G Y A (fd_plain B) h i e b g C) λr s' I=>?_);obtain⟨rfl,J,K,L⟩:=I;exact⟨.inl ⟨.bool true,.bool true,[],rfl,λ_=>rfl,.bool true,CM l _,λ_=>⟨List.Pairwise.nil,λ_ M=>(nomatch M)⟩⟩,J,K,L⟩
end UG
namespace L2
open PySem PySem.Spec PyProof.Rows
theorem uo:∀{vs:List Value}{ns:List Int},IntsAre vs ns->Vals (ns.map V.int) vs
 |_,_,.nil=>.nil
 |_,_,.cons n t h=>.cons ⟨t,rfl⟩ (uo h)
def tu(H:Hp):Prop:=∀b,H b=none\/∃o xs,H b=some (.bK o (.lst xs))
def FF{P:Program}{w:World}{K:PySem.W.Frag}{mg mb:Str->Option Value}{CX:nL}{k:Nat}{fa a:Addr}{fd:FuncData}{x:Str}{sp:Sp}{s₁:Shared}{vs:List Value}{ns:List Int}
  (KX:K.In s₁.heap) (hns:s₁.heap.Ns mainGlobals mg) (hb:s₁.heap.Ns builtinsNs mb) (MW:∀x:Str,x≠"__name__" ->mb x=bootBuiltins x) (hlim:s₁.heap.NoLimit) (hg:s₁.gens = #[])
  (ha:s₁.heap.get? a=some { cls:=.type "list",data:=.seq vs.toArray }) (hi:IntsAre vs ns) (hl:ns.length<=sizeLine) (hr:gb k callerA)
  (F:∀base:Heap,K.In base->base.Ns mainGlobals mg->jk P w K mg base CX k fa fd [x] sp) (hbind:∀(s:Shared) (u:Value),BindsTo s fd ⟨[u],[]⟩ [(x,u)])
  (mq:∀H:Hp,tu H->fQ K H a (ns.map V.int)->sp [.ref a] H (λv _=>v=.bl true) λ_ _ _=>False)
  (CN:∀H e s',CX [] H s₁ (λ_ _ _=>False) e s'->False) :
  codeAny (model P w) callerA (.call (.ref fa) ⟨[.ref a],[]⟩) (λr s'=>r=.ok (.ret (.bool true))/\OldK s₁.heap s'.heap/\s'.os=s₁.os/\AllBare s'.gens) s₁:=by
 have rv:=uo hi;have Wx:=hi.length;have c:∀H:Hp,tu H->fQ K H a (ns.map V.int)->fq P w H s₁.heap->(∀b,H b≠none->b=a)->(H a≠none->K.lookup a=none)->
   codeAny (model P w) callerA (.call (.ref fa) ⟨[.ref a],[]⟩) (λr s'=>r=.ok (.ret (.bool true))/\OldK s₁.heap s'.heap/\s'.os=s₁.os/\AllBare s'.gens) s₁:=by
  intro H l B f p C;have y:∀{b:Addr} {o:Obj},s₁.heap.get? b=some o->H b=none->(mW s₁.heap H).get? b=some o:=λe n=>Fd e n;have CG:∀{b:Addr} {o:Obj} {es:Array DictEntry} {ep:Nat},s₁.heap.get? b=some o->o.data=.dict es ep->H b=none:=λ{b o es ep} e d=>by
   cases q:H b with
   |none=>rfl
   |some u=>
    have j:b=a:=p b (by rw[q];simp);subst j;rw[ha]at e;cases e;have G:Data.seq vs.toArray _=Data.dict es ep:=d;cases G
  have Ia:∀{b:Addr} {m:Str->Option Value},s₁.heap.Ns b m->(mW s₁.heap H).Ns b m:=λ{b m} ⟨o,es,ep,e,d,r⟩=>⟨o,es,ep,y e (CG e d),d,r⟩
  have UH:K.In (mW s₁.heap H):=λb o e=>y (KX b o e) (by
   cases q:H b with
   |none=>rfl
   |some u=>
    have j:b=a:=p b (by rw[q];simp);subst j;rw[C (by rw[q];simp)]at e;cases e)
  have I:Mod K mg (mW s₁.heap H):=⟨UH,Ia hns,⟨mb,Ia hb,MW⟩,let ⟨mc,h1,h2⟩:=hlim;⟨mc,Ia h1,h2⟩⟩
  have J:Bf P w K mg (mW s₁.heap H) callerA [] s₁ H:=⟨rfl,I,λb o e=>JN e,Nat.le_of_eq (Ct _ _),trivial,λb hb=>absurd (show b∈([]:List Addr)from hb) (by simp),f,.of_eq hg⟩
  refine acn ((F _ UH (Ia hns)).run callerA [] s₁ H ⟨[.ref a],[]⟩ [.ref a] [.ref a] _ _ hr J (hbind s₁ (.ref a)) (.cons rfl .nil) (mq H l B)) λr s' h=>?_;cases r with
  |error e=>exact(CN H e s' h).elim
  |ok fl=>
   cases fl with
   |next=>exact False.elim h
   |brk=>exact False.elim h
   |cont=>exact False.elim h
   |ret u=>
    obtain⟨v,H',os,g,un,Wy,L,q⟩:=h;have M:v=.bl true:=q;subst M;obtain rfl:u=Value.bool true:=L;refine⟨rfl,OldK.of_keep λb o e=>?_,os,g⟩;cases q:H b with
    |none=>exact un.keep b o e q (by intro z;exact absurd (show b∈([]:List Addr)from z) (by simp)) (by simp)
    |some u=>
     rcases l b with z|⟨N,Y,z⟩
     .rw[q]at z;cases z
     .have Q:=un.mV b N _ z;obtain⟨A,_⟩:=f b _ z;obtain⟨X,_⟩:=Wy b _ Q;rw[e]at A;cases A;exact X
 cases hk:K.lookup a with
 |some o=>
  have e:=KX a o hk;rw[ha]at e;cases e;refine c (λ_=>none) (λ_=>.inl rfl) (.inr ⟨_,vs.toArray,_,hk,rfl,rfl,rfl,by rw[Xm,Wx];exact hl,by simpa using rv⟩) (λb u z=>by have i:(none:Option HO)=some u:=z;cases i) (λb z=>absurd rfl z) λz=>absurd rfl z
 |none=>
  refine c (λb=>if b=a then some (.bK { cls:=.type "list",data:=.seq vs.toArray } (.lst (ns.map V.int)))else none) (λb=>?_) (.inl (.inr ⟨{ cls:=.type "list",data:=.seq vs.toArray },LV rfl⟩)) (λb u z=>?_) (λb z=>?_) λ_=>hk
  .by_cases hb:b=a
   .exact .inr ⟨_,_,LV hb⟩
   .exact .inl (aaj hb)
  .by_cases hb:b=a
   .have i:=(LV hb).symm.trans z;cases i;subst hb;exact⟨ha,by rw[aaq];exact hl,vs,_,rv,ha⟩
   .have i:=(aaj hb).symm.trans z;cases i
  .by_cases hb:b=a
   .exact hb
   .exact absurd (aaj hb) z
def Kf{l:PySem.W.OpenLaw}{n k:Nat}{q:Program}{loose:List Str}{XP:(Str->Option Value)->Heap->Prop}{YP:World->Heap->Prop}{d:DefRec}{K:Params->PySem.W.Frag}{CX:World->nL}{sp:World->Sp}{x:Str}
  (hn:l.most=some n) (hn2:n<=sizeLine) (hdf:d.params.defaults=[]) (hr:gb k callerA)
  (hY:∀(w:World) (h:Heap),YP w h->(K w.params).In h)
  (F:∀(w:World) (mg:Str->Option Value) (fa:Addr) (h:Heap),(K w.params).In h->h.Ns mainGlobals mg->mg d.name=some (.ref fa)->
   ∃fd:FuncData,(∀(s:Shared) (u:Value),BindsTo s fd ⟨[u],[]⟩ [(x,u)])/\
    ∀base:Heap,(K w.params).In base->base.Ns mainGlobals mg->jk l.prog w (K w.params) mg base (CX w) k fa fd [x] (sp w))
  (mq:∀(w:World) (H:Hp) (a:Addr) (ns:List Int),ns.length<=n->tu H->fQ (K w.params) H a (ns.map V.int)->sp w [.ref a] H (λv _=>v=.bl true) λ_ _ _=>False)
  (CN:∀(w:World) (H:Hp) (s:Shared) (e:Value) (s':Shared),CX w [] H s (λ_ _ _=>False) e s'->False) :
  PySem.W.WalkO q loose XP YP l.row.toRowW d [] (λf vs=>PySem.call f vs):=by
 refine UG.zg hn hdf λw L r mg M fa o N P y a vs ns G Y Q X z p j i c A=>?_;have KX:=hY w _ Y;obtain⟨fd,B,C⟩:=F w mg fa _ KX G.T.g p;exact FF KX G.T.g G.T.b G.T.builtins G.T.nolimit A j i (aas c hn2) hr C B (λH I J=>mq w H a ns c I J) λH e s'=>CN w H r e s'
def FG{l:PySem.W.OpenLaw}{n k:Nat}{q:Program}{loose:List Str}{XP:(Str->Option Value)->Heap->Prop}{YP:World->Heap->Prop}{d:DefRec}{K:Params->PySem.W.Frag}{CX:nL}{sp:PySem.W.Frag->Sp}{x:Str}
  (hn:l.most=some n) (hn2:n<=sizeLine) (hdf:d.params.defaults=[]) (hr:gb k callerA)
  (hY:∀(w:World) (h:Heap),YP w h->(K w.params).In h)
  (F:∀(w:World) (mg:Str->Option Value) (fa:Addr) (h:Heap),(K w.params).In h->h.Ns mainGlobals mg->mg d.name=some (.ref fa)->
   ∃fd:FuncData,(∀(s:Shared) (u:Value),BindsTo s fd ⟨[u],[]⟩ [(x,u)])/\
    ∀base:Heap,(K w.params).In base->base.Ns mainGlobals mg->jk l.prog w (K w.params) mg base CX k fa fd [x] (sp (K w.params)))
  (mq:∀(K:PySem.W.Frag) (H:Hp) (a:Addr) (ns:List Int),ns.length<=n->tu H->fQ K H a (ns.map V.int)->sp K [.ref a] H (λv _=>v=.bl true) λ_ _ _=>False)
  (CN:∀(H:Hp) (s:Shared) (e:Value) (s':Shared),CX [] H s (λ_ _ _=>False) e s'->False) :
  PySem.W.WalkO q loose XP YP l.row.toRowW d [] (λf vs=>PySem.call f vs):=
 Kf (K:=K) (CX:=λ_=>CX) (sp:=λw=>sp (K w.params)) hn hn2 hdf hr hY F (λw H a ns b c g=>mq (K w.params) H a ns b c g) λ_ H s e s'=>CN H s e s'
noncomputable def pM(s:Stmt):Arguments:=match s with
 |.FunctionDef _ a _ _ _ _ _ _ _ _=>a
 |_=>{ posonlyargs:=[],args:=[],vararg:=none,kwonlyargs:=[],kw_defaults:=[],kwarg:=none,defaults:=[]}
noncomputable def iH(s:Stmt):List Stmt:=match s with
 |.FunctionDef _ _ b _ _ _ _ _ _ _=>b
 |_=>[]
noncomputable def aU(s:Stmt):Scope:=match s with
 |.FunctionDef _ _ _ _ _ _ sc _ _ _=>sc
 |_=>{ kind:=.function,names:=[],isGenerator:=false,isCoroutine:=false }
abbrev oH:nL:=λ_ _ _ _ _ _=>False
abbrev E0:XK:=λ_ _ _=>False
def SS{X:Cx}:Passes oH X E0:=λ_ _ _ _ _ _ _ h=>h.elim
structure v5(K:PySem.W.Frag)(x qual:Str)(st:Stmt)(f:Addr)(fd:FuncData):Prop where
 ex:∃(oc:Value) (od:Option Addr) (kV doc pm:Value) (an:Option Addr) (cdv ct:Value) (osl:Array (Option Value)),
  fd=PySem.W.fnOf x qual (pM st) (iH st) (aU st) .none kV doc pm an cdv ct/\K.lookup f=some ⟨oc,od,.func fd,osl⟩/\PySem.W.codeIn K cdv qual=true
 kp:PySem.W.keepIn K (.ref f)=true
section
variable{P:Program}{w:World}{K:PySem.W.Frag}{mg:Str->Option Value}{base:Heap}
def v5.ok{x qual:Str}{st:Stmt}{f:Addr}{fd:FuncData}{N ps:List Str}{k:Nat}{sp:Sp}(F:v5 K x qual st f fd)(S:bI N ps (aU st))(len:∀vs H Q E,sp vs H Q E->vs.length=ps.length)
  (hbody:∀(cdv:Value) (A:Around) (outer:List Env) (s:Shared) (H:Hp) (vs:List V) (Q:VK) (E:XK),gb k (A.deeper (envOfC qual (aU st) s.heap.objs.size f cdv))->sp vs H Q E->
   ∃t,ji (qG oH P w K mg base N qual (aU st) f cdv A outer s H E).ua (iH st) t/\t { nx:=λ_ H'=>Q .aD H',rt:=Q } (start N vs) H):jk P w K mg base oH (k+1) f fd ps sp:=by
 obtain⟨oc,i,kV,b,j,l,cdv,o,c,rfl,d,a⟩:=F.ex;refine SJ d a S len λA outer s H vs Q E e g=>?_;obtain⟨t,h,q⟩:=hbody cdv A outer s H vs Q E e g;exact⟨t,h.ua,q⟩
def v5.binds{x qual:Str}{st:Stmt}{f:Addr}{fd:FuncData}{ps:List Str}(F:v5 K x qual st f fd)
  (h:∀(kV doc pm:Value) (an:Option Addr) (cdv ct:Value) (us:List Value),us.length=ps.length->bindArgs (PySem.W.fnOf x qual (pM st) (iH st) (aU st) .none kV doc pm an cdv ct) ⟨us,[]⟩=pure (ps.zip us)):Binds K fd ps []:=by
 obtain⟨oc,c,kV,doc,pm,an,cdv,ct,a,rfl,d,b⟩:=F.ex;exact .all (h kV doc pm an cdv ct)
def cj{x qual:Str}{st:Stmt}{f:Addr}{oc:Value}{od an:Option Addr}{osl:Array (Option Value)}{kV doc pm cdv ct:Value}(l:K.lookup f=some ⟨oc,od,.func (PySem.W.fnOf x qual (pM st) (iH st) (aU st) .none kV doc pm an cdv ct),osl⟩)
  (c:PySem.W.codeIn K cdv qual=true) (k:PySem.W.keepIn K (.ref f)=true):v5 K x qual st f (PySem.W.fnOf x qual (pM st) (iH st) (aU st) .none kV doc pm an cdv ct):=⟨⟨oc,od,kV,doc,pm,an,cdv,ct,osl,rfl,l,c⟩,k⟩
end
def vj{A:Around}{k:Nat}(hr:gb k A):A.units+1<cLine:=abv (Nat.add_le_add_left (by decide:1<=64) _) hr.units
section
variable{X:Cx}
def pv (i:Nat) {x:Str}{pos:Pos}(hN:autoParam (X.N[i]?=some x) zb._auto_1) (hv:Cu X.env.scope x:=by first|exact Or.inl rfl|exact Or.inr (Or.inl rfl)|exact Or.inr (Or.inr rfl)) (hd:autoParam ((x==("__debug__" : Str))=false) zP._auto_1)
  (hcd:autoParam ((x==("__classdict__" : Str))=false) zP._auto_1):PE X (.Name x pos) (Mk i):=Cw hN hv hd hcd
end
section
variable{κ:Type}[DecidableEq κ]
noncomputable def iS(kvs:List (κ×V))(k:κ):Option V:=(kvs.find? λa=>decide (a.1=k)).map (·.2)
noncomputable def putK(kvs:List (κ×V))(k:κ)(v:V):List (κ×V):=
 if (kvs.any λa=>decide (a.1=k))=true then kvs.map (λa=>if a.1=k then (a.1,v)else a)else kvs++[(k,v)]
def mZ{p:κ×V}{r:List (κ×V)}{k:κ}(e:p.1=k):iS (p :: r) k=some p.2:=by simp[iS,List.find?_cons,e]
def m5{p:κ×V}{r:List (κ×V)}{k:κ}(e:¬ p.1=k):iS (p :: r) k=iS r k:=by simp[iS,List.find?_cons,e]
theorem v8(k:κ):∀kvs:List (κ×V),(kvs.any λkv=>decide (kv.1=k))=(iS kvs k).isSome
 |[]=>rfl
 |p :: r=>by
  rw[List.any_cons];by_cases e:p.1=k
  .simp only[mZ e,aaV e,Bool.true_or,ab9]
  .rw[m5 e,aav e,Bool.false_or];exact v8 k r
def lS(kvs:List (κ×V))(k:κ)(v:V):(putK kvs k v).length<=kvs.length+1:=by
 unfold putK;split
 .rw[aaq];omega
 .rw[aam,aal,ab4];omega
def jM.CO{o:Option V}{u:Option Value}(r:jM o u):o.isSome=u.isSome:=by
 cases o with
 |none=>cases u with
  |none=>rfl
  |some _=>exact(show False from r).elim
 |some _=>cases u with
  |none=>exact(show False from r).elim
  |some _=>rfl
theorem jM.getD{o:Option V}{u:Option Value}{d:V}{d':Value}(r:jM o u)(rd:RelV d d'):RelV (o.getD d) (u.getD d'):=by
 cases o with
 |none=>cases u with
  |none=>exact rd
  |some _=>exact(show False from r).elim
 |some _=>cases u with
  |none=>exact(show False from r).elim
  |some _=>exact r
def KV.val{kvs:List (κ×V)}{vs:List (κ×Value)}(r:KV kvs vs)(k:κ):jM (iS kvs k) (valueAt vs k):=by
 unfold KV at r;induction r with
 |nil=>exact True.intro
 |@cons p q ps a h t f=>
  obtain⟨d,g⟩:=h;by_cases e:p.1=k
  .have c:q.1=k:=d.symm.trans e;have b:valueAt (q :: a) k=some q.2:=by simp[valueAt,List.find?_cons,c]
   rw[mZ e,b];exact g
  .have c:¬ q.1=k:=λz=>e (d.trans z);have b:valueAt (q :: a) k=valueAt a k:=by simp[valueAt,List.find?_cons,c]
   rw[m5 e,b];exact f
theorem KV.any{kvs:List (κ×V)}{vs:List (κ×Value)}(r:KV kvs vs)(k:κ):(kvs.any λkv=>decide (kv.1=k))=vs.any λkv=>decide (kv.1=k):=by
 unfold KV at r;induction r with
 |nil=>rfl
 |cons h t a=>rw[List.any_cons,List.any_cons,a,h.1]
def KV.repl{kvs:List (κ×V)}{vs:List (κ×Value)}(r:KV kvs vs)(k:κ){y:V}{u:Value}(ry:RelV y u) :
  KV (kvs.map λkv=>if kv.1=k then (kv.1,y)else kv) (vs.map λkv=>if kv.1=k then (kv.1,u)else kv):=by
 unfold KV at r ⊢;induction r with
 |nil=>exact .nil
 |@cons p q ps d h t b=>
  rw[aai,aai];refine .cons ?_ b;obtain⟨a,c⟩:=h;by_cases e:p.1=k
  .rw[LV e,LV (a.symm.trans e)];exact⟨a,ry⟩
  .rw[aaj e,aaj (λz=>e (a.trans z))];exact⟨a,c⟩
def KV.put{kvs:List (κ×V)}{vs:List (κ×Value)}(r:KV kvs vs)(k:κ){y:V}{u:Value}(ry:RelV y u):KV (putK kvs k y) (stored vs k u):=by
 unfold putK stored;rw[r.any k];by_cases e:(vs.any λa=>decide (a.1=k))=true
 .rw[LV e,LV e];exact r.repl k ry
 .rw[aaj e,aaj e];exact Paired.snoc r ⟨rfl,ry⟩
def KV.keys{kvs:List (κ×V)}{vs:List (κ×Value)}(r:KV kvs vs):kvs.map (·.1)=vs.map (·.1):=by
 unfold KV at r;induction r with
 |nil=>rfl
 |cons h t a=>rw[aai,aai,a,h.1]
theorem KV.length{kvs:List (κ×V)}{vs:List (κ×Value)}(r:KV kvs vs):kvs.length=vs.length:=Paired.length r
end
def pN{P:Program}{w:World}{k:Key}{u:Value}(r:RelV (kV k) u):(aQ P w).is k u=true:=by
 cases k with
 |inl i=>obtain⟨t,e⟩:=(show ∃t,u=Value.int i t from r);subst e;exact zc P w i t
 |inr x=>obtain⟨t,e⟩:=(show ∃t,u=Value.str x t from r);subst e;exact zd P w x t
theorem uq{P:Program}{w:World}:∀{ks:List Key}{us:List Value},Vals (ks.map kV) us->ItemsAre (aQ P w) ks us
 |[],_,r=>by rw[aco]at r;cases r;exact .nil
 |k :: ks,_,r=>by
  rw[aai]at r;cases r with
  |cons h t=>exact .cons (pN h) (uq t)
abbrev KT(H:Hp):List (List Key×V)->List (List Key×Addr×Value)->Prop:=Paired λp q=>p.1=q.1/\H q.2.1=some (.tup (p.1.map kV))/\RelV p.2 q.2.2
def KT.val{H:Hp}{kvs:List (List Key×V)}{xs:List (List Key×Addr×Value)}(r:KT H kvs xs)(k:List Key):jM (iS kvs k) ((atKey xs k).map (·.2)):=by
 induction r with
 |nil=>exact True.intro
 |@cons p q ps a h t f=>
  obtain⟨d,_,g⟩:=h;by_cases e:p.1=k
  .have c:q.1=k:=d.symm.trans e;have b:atKey (q :: a) k=some q.2:=by simp[atKey,List.find?_cons,c]
   rw[mZ e,b];exact g
  .have c:¬ q.1=k:=λz=>e (d.trans z);have b:atKey (q :: a) k=atKey a k:=by simp[atKey,List.find?_cons,c]
   rw[m5 e,b];exact f
def KT.repl{H:Hp}{kvs:List (List Key×V)}{xs:List (List Key×Addr×Value)}(r:KT H kvs xs)(k:List Key){y:V}{u:Value}(ry:RelV y u) :
  KT H (kvs.map λkv=>if kv.1=k then (kv.1,y)else kv) (xs.map (putAt k u)):=by
 induction r with
 |nil=>exact .nil
 |@cons p q ps f h t c=>
  rw[aai,aai];refine .cons ?_ c;obtain⟨a,b,d⟩:=h;unfold putAt;by_cases e:p.1=k
  .rw[LV e,LV (a.symm.trans e)];exact⟨a,b,ry⟩
  .rw[aaj e,aaj (λz=>e (a.trans z))];exact⟨a,b,d⟩
def KT.put{H:Hp}{kvs:List (List Key×V)}{xs:List (List Key×Addr×Value)}(r:KT H kvs xs)(k:List Key){b:Addr}{y:V}{u:Value}(hb:H b=some (.tup (k.map kV)))(ry:RelV y u) :
  KT H (putK kvs k y) (storedH xs k b u):=by
 have e:(kvs.any λa=>decide (a.1=k))=(atKey xs k).isSome:=by
  rw[v8,(r.val k).CO,Option.isSome_map]
 unfold putK storedH;rw[e];by_cases q:(atKey xs k).isSome=true
 .rw[LV q,LV q];exact r.repl k ry
 .rw[aaj q,aaj q];exact Paired.snoc r ⟨rfl,hb,ry⟩
def KT.keeps{H H':Hp}{kvs:List (List Key×V)}{xs:List (List Key×Addr×Value)}(r:KT H kvs xs)(ht:∀b ys,H b=some (.tup ys)->H' b=some (.tup ys)):KT H' kvs xs:=
 Paired.Fc r λ_ _ z=>⟨z.1,ht _ _ z.2.1,z.2.2⟩
section
variable{P:Program}{w:World}{H:Hp}{h:Heap}{a:Addr}
def Ib{u:HO}(ok:fq P w H h)(e:Rd H a u):dJ P w H h a u:=e.ok ok
def m6{kvs:List (Key×V)}(ok:fq P w H h)(e:Rd H a (.dK kvs)):kvs.length<=sizeLine/\(a==sysModules)=false/\∃vs,KV kvs vs/\h.DictOf (aQ P w) a vs:=
 show dJ P w H h a (.dK kvs)from Ib ok e
def Bm{kvs:List (Key×V)}(ok:fq P w H h)(e:H a=some (.dK kvs)):kvs.length<=sizeLine/\(a==sysModules)=false/\∃vs,KV kvs vs/\h.DictOf (aQ P w) a vs:=m6 ok (.inl e)
def rJ{ks:List Key}(ok:fq P w H h)(e:H a=some (.tup (ks.map kV))):(tupleKind (aQ P w)).is h ks a:=by
 obtain⟨_,b,r,o,c,d,n,f⟩:=(show dJ P w H h a (.tup (ks.map kV))from ok a _ e)
 exact⟨o,b.toArray,n,c,d,f,by simpa using uq r⟩
def rK{kvs:List (List Key×V)}(ok:fq P w H h)(e:Rd H a (.dT kvs)):kvs.length<=sizeLine/\(a==sysModules)=false/\
  ∃xs,KT H kvs xs/\h.DictOfH (tupleKind (aQ P w)) a xs:=by
 obtain⟨z,y,xs,r,o,d,f,g,i,j,A,B⟩:=(show dJ P w H h a (.dT kvs)from Ib ok e)
 refine⟨z,y,xs,r,o,d,f,g,i,j,A,λx b=>?_,B⟩;have all:∀{l:List (List Key×V)} {m:List (List Key×Addr×Value)},KT H l m->∀x∈m,(tupleKind (aQ P w)).is h x.1 x.2.1:=by
  intro l m q;induction q with
  |nil=>intro x b;exact nomatch b
  |@cons p q ps F c t C=>
   intro x b;rcases List.mem_cons.mp b with e|b
   .subst e;exact rJ ok (by rw[<-c.1];exact c.2.1)
   .exact C x b
 exact all r x b
def SV{kvs:List (List Key×V)}(ok:fq P w H h)(e:H a=some (.dT kvs)):kvs.length<=sizeLine/\(a==sysModules)=false/\
  ∃xs,KT H kvs xs/\h.DictOfH (tupleKind (aQ P w)) a xs:=rK ok (.inl e)
end
def m7(H:Hp)(a:Addr)(y:V)(r:Option V):Prop:=
 (∃kvs k,Rd H a (.dK kvs)/\y=kV k/\r=iS kvs k)\/∃kvs k b,Rd H a (.dT kvs)/\y=.ref b/\H b=some (.tup (k.map kV))/\r=iS kvs k
def v9(H:Hp)(a:Addr)(y v:V)(H':Hp):Prop:=
 (∃kvs k,H a=some (.dK kvs)/\y=kV k/\kvs.length<sizeLine/\H'=upd H a (.dK (putK kvs k v)))\/
 ∃kvs k b,H a=some (.dT kvs)/\y=.ref b/\H b=some (.tup (k.map kV))/\kvs.length<sizeLine/\H'=upd H a (.dT (putK kvs k v))
theorem m7.k{H:Hp}{a:Addr}{kvs:List (Key×V)}{k:Key}(e:H a=some (.dK kvs)):m7 H a (kV k) (iS kvs k):=.inl ⟨kvs,k,.inl e,rfl,rfl⟩
theorem v9.k{H:Hp}{a:Addr}{kvs:List (Key×V)}{k:Key}{v:V}(e:H a=some (.dK kvs))(hl:kvs.length<sizeLine):v9 H a (kV k) v (upd H a (.dK (putK kvs k v))):=.inl ⟨kvs,k,e,rfl,hl,rfl⟩
section
variable{X:Cx}{pins:List (Addr×Obj)}{σ:St}{H:Hp}{s:Shared}{a:Addr}{y v:V}{u r:Value}{o:Option V}{A:Around}{E:Value->Shared->Prop}
def Inv.big(I:Inv X pins σ H s):sysModules<s.heap.objs.size:=by
 have h:mainGlobals<s.heap.objs.size:=(I.mod.glob.keeps I.bk).lt;exact Nat.lt_trans (by decide) h
def CP{Q:Value->Shared->Prop}(hu:A.units+1<cLine)(I:Inv X pins σ H s)(g:m7 H a y (some v))(ry:RelV y u)(h:∀w' s',Inv X pins σ H s'->RelV v w'->Q w' s') :
  wpAny (model X.prog X.w) A (getItem (.ref a) u) Q E s:=by
 rcases g with ⟨kvs,k,e,f,l⟩|⟨kvs,k,b,e,f,q,l⟩
 .subst f;obtain⟨z,x,B,c,dd⟩:=m6 I.hok e;obtain⟨w',i,d⟩:=jM.some_of (v:=v) (o:=valueAt B k) (by rw[l];exact c.val k);exact wpAny_getItem_of (pN ry) dd.mapOf i (h w' _ (I.tok _) d)
 .subst f;cases (show u=Value.ref b from ry);obtain⟨z,x,C,c,dd⟩:=rK I.hok e;obtain⟨w',i,d⟩:=jM.some_of (v:=v) (o:=(atKey C k).map (·.2)) (by rw[l];exact c.val k);obtain⟨p,F,j⟩:=Option.map_eq_some_iff.mp i;refine wpAny_getItem_heap (tupleKind_room_in1 hu) (rJ I.hok q) dd F ?_;rw[j];exact h w' _ (I.tok _) d
def pO{h':Heap}{t':Nat}{ob:HO}(I:Inv X pins σ H s)(mu:Cs (H a))(hs:Heap.SameBut a s.heap h')(he:∃q,h'.get? a=some q)(new:dJ X.prog X.w (upd H a ob) h' a ob) :
  Inv X pins σ (upd H a ob) { s with heap:=h',toks:=t' }:=
 I.write (x:=a) (e:=a) mu (.inl rfl) (λb q c z=>(hs.2 b c).trans z) he new
def rL{P:Program}{w:World}{H':Hp}{h':Heap}{kvs:List (Key×V)}{vs:List (Key×Value)}(z:kvs.length<=sizeLine)(hd:(a==sysModules)=false)(rel:KV kvs vs)(dd:h'.DictOf (aQ P w) a vs) :
  dJ P w H' h' a (.dK kvs):=⟨z,hd,vs,rel,dd⟩
def CQ{H':Hp}{Q:Unit->Shared->Prop}(hu:A.units+1<cLine)(I:Inv X pins σ H s)(g:v9 H a y v H')(ry:RelV y u)(rv:RelV v r)(h:∀s',Inv X pins σ H' s'->Q () s') :
  wpAny (model X.prog X.w) A (setItem (.ref a) u r) Q E s:=by
 rcases g with ⟨kvs,k,e,j,l,p⟩|⟨kvs,k,b,e,j,G,l,p⟩
 .subst j p;obtain⟨z,x,L,d,dd⟩:=Bm I.hok e;have B:L.length<=sizeLine:=by rw[<-d.length];exact z
  have C:(putK kvs k v).length<=sizeLine:=by have:=lS kvs k v;omega
  refine wpAny_setItem_pairs (hsz:=B) (pN ry) dd λJ f F=>h _ ?_;have M:∃q,J.get? a=some q:=let ⟨q,_,_,i,_⟩:=f;⟨q,i⟩;exact pO I (by rw[e];exact True.intro) F M (rL C x (d.put k rv) f)
 .subst j p;cases (show u=Value.ref b from ry);obtain⟨z,x,N,d,dd⟩:=SV I.hok e;have B:N.length<=sizeLine:=by rw[<-Paired.length d];exact z
  have C:(putK kvs k v).length<=sizeLine:=by have:=lS kvs k v;omega
  refine wpAny_setItem_heap (hsz:=B) (tupleKind_room_in1 hu) (rJ I.hok G) dd λJ f F=>h _ ?_;obtain⟨q,P,W,i,Y,Z,h4,_,h5⟩:=f;refine pO I (by rw[e];exact True.intro) F ⟨q,i⟩ ⟨C,x,_,(d.put k G rv).keeps λc ys K=>?_,q,P,W,i,Y,Z,h4,h5⟩;rw[aJ (gh K e (λz=>nomatch z))];exact K
end
def Bo(i:Expr):Prop:=∀ov iv,subscripted i false ov iv=operate [ov,iv] (getItem ov iv)
def Kg{prog:Program}{w:World}{A:Around}{E:Value->Shared->Prop}{s:Shared}{env:Env}{value slice:Expr}{pos:Pos}{T id:String}{Q:Value->Shared->Prop}
  (hl:typeLookup (.type T) "__getitem__" = pure (some (.builtin id))) (hs:Bo slice)
  (h:wpAny (model prog w) A (eval value env) (λo s₁=>wpAny (model prog w) A (eval slice env) (λi s₂=>s₂.TypeIs o T/\wpAny (model prog w) A (getItem o i) Q E s₂) E s₁) E s) :
  wpAny (model prog w) A (eval (.Subscript value slice pos) env) Q E s:=by
 refine Subscript_ (aa6 h (λo s₁ d=>aa6 d (λi s₂ a=>?_) λ_ _ x=>x) λ_ _ x=>x);obtain⟨b,a⟩:=a;unfold subscriptTail;refine gV ?_;rw[getitemInPython_of_ne b.not_modules];refine gV (abF b hl ?_);have fin:wpAny (model prog w) A (subscripted slice false o i) (λr c=>wpAny (model prog w) A (letTemporaryGo value o r >>= λ_=>pure r) Q E c) E s₂:=by
  rw[hs o i];exact wpAny_operating (aa6 a (λr c e=>gV (wpAny_letTemporaryGo (aaf e))) λ_ _ x=>x)
 first
  |exact aaf (gV fin)
  |exact gV (aaf (gV fin))
  |exact gV fin
def zh {X:Cx}{pins:List (Addr×Obj)}{σ:St}{H:Hp}{s:Shared}{a:Addr}{y:V}{o:Option V}(I:Inv X pins σ H s) (g:m7 H a y o):s.TypeIs (.ref a) "dict" :=by
 rcases g with ⟨kvs,k,e,_,_⟩|⟨kvs,k,b,e,_,_,_⟩
 .obtain⟨_,_,c,_,dd⟩:=m6 I.hok e;exact dd.typeIs
 .obtain⟨_,_,d,_,dd⟩:=rK I.hok e;exact dd.typeIs
noncomputable def SX(td ty:TE):TE:=λσ H Q=>td σ H λx H1=>ty σ H1 λy H2=>∃a v,x=.ref a/\m7 H2 a y (some v)/\Q v H2
noncomputable def SY(td ty tv:TE):TS:=λD σ H=>tv σ H λv H1=>td σ H1 λx H2=>ty σ H2 λy H3=>∃a H4,x=.ref a/\v9 H3 a y v H4/\D.nx σ H4
section
variable{X:Cx}{o i value:Expr}{pos pos':Pos}{td ty tv:TE}
def zH(hu:X.A.units+1<cLine)(ho:PE X o td)(hi:PE X i ty)(hs:Bo i):PE X (.Subscript o i pos) (SX td ty):=by
 intro b s σ H Q I h;refine Kg PySem.F.slot_dict_getitem.lookup hs (bQ (ho b s σ H _ I h) λu s1 ⟨x,H1,I1,d,e⟩=>bQ (hi b s1 σ H1 _ I1 e) λl s2 zr=>?_);obtain⟨y,H2,I2,f,a,v,ex,g,j⟩:=zr;subst ex;obtain rfl:u=Value.ref a:=d;exact⟨zh I2 g,CP hu I2 g f λp s3 I3 c=>⟨v,H2,I3,c,j⟩⟩
def Kh(hu:X.A.units+1<cLine)(ho:PE X o td)(hi:PE X i ty)(hv:PE X value tv)(hs:swapsWith value (some (.Subscript o i pos')) pos.line X.env=pure false) :
  PS X (.Assign [.Subscript o i pos'] value pos) (SY td ty tv):=by
 intro b s σ H D I h;refine wpAny_Assign_Subscript (bQ (hv b s σ H _ I h) λr s1 ⟨v,H1,I1,rv,c⟩=>bQ (ho b s1 σ H1 _ I1 c) λu s2 ⟨x,H2,I2,d,e⟩=>bQ (hi b s2 σ H2 _ I2 e) λl s3 zr=>?_) hs;obtain⟨y,H3,I3,f,a,H4,ex,g,j⟩:=zr;subst ex;obtain rfl:u=Value.ref a:=d;exact CQ hu I3 g f rv λs4 I4=>⟨σ,H4,I4,j⟩
end
def we {P:Program}{w:World}{H:Hp}(h:Heap) (hb:sysModules<h.objs.size):dJ P w H (h.push { cls:=.type "dict",data:=.dict #[]}) h.objs.size (.dK []):=
 ⟨aaU _,beq_eq_false_iff_ne.mpr (abk (aaB hb)),[],.nil,Heap.DictOf.new h⟩
noncomputable def MX:TE:=λ_ H Q=>∀p,H p=none->Q (.ref p) (upd H p (.dK []))
section
variable{X:Cx}{pos:Pos}
def FH:PE X (.Dict [] [] pos) MX:=λpins s σ H Q I h=>
 wpAny_Dict_empty ⟨.ref s.heap.objs.size,_,I.laid (a:=s.heap.objs.size) (o:=.dK []) (t':=s.toks) (λ_ _ q=>aac _ q) (aae _) (we s.heap I.big),rfl,h _ (I.hok.fresh (aae _))⟩
end
def rM:List (TE×TE)->St->Hp->(List (V×V)->Hp->Prop)->Prop
 |[],_,H,Q=>Q [] H
 | (tk,tv) :: r,σ,H,Q=>tk σ H λx H1=>tv σ H1 λy H2=>rM r σ H2 λps H3=>Q ((x,y) :: ps) H3
abbrev VV:List (V×V)->List (Value×Value)->Prop:=Paired λp q=>RelV p.1 q.1/\RelV p.2 q.2
def CS(X:Cx)(pos:Pos)(keys:List (Option Expr))(values:List Expr)(kT:List (TE×TE)):Prop:=
 ∀(pins:List (Addr×Obj)) (s:Shared) (σ:St) (H:Hp) (Q:List (V×V)->Hp->Prop),Inv X pins σ H s->rM kT σ H Q->
  wpAny (model X.prog X.w) X.A (evalPairs (pairTrees keys values X.env pos)) (λa b=>∃ps H',Inv X pins σ H' b/\VV ps a/\Q ps H') X.xe s
def Kl{X:Cx}{pos:Pos}:CS X pos [] [] []:=λpins s σ H Q I h=>pairTrees_nil_walk ⟨[],H,I,.nil,h⟩
def FJ{X:Cx}{pos:Pos}{k v:Expr}{ks:List (Option Expr)}{vs:List Expr}{tk tv:TE}{kT:List (TE×TE)}(hk:PE X k tk)(hv:PE X v tv)(hr:CS X pos ks vs kT) :
  CS X pos (some k :: ks) (v :: vs) ((tk,tv) :: kT):=λpins s σ H Q I h=>
 pairTrees_cons_walk (bQ (hk pins s σ H _ I h) λu s1 ⟨x,H1,I1,b,c⟩=>bQ (hv pins s1 σ H1 _ I1 c) λg s2 ⟨y,H2,I2,d,e⟩=>
  bQ (hr pins s2 σ H2 _ I2 e) λi s3 ⟨ps,H3,I3,a,f⟩=>⟨(x,y) :: ps,H3,I3,.cons ⟨b,d⟩ a,f⟩)
noncomputable def g7(kvs more:List (Key×V)):List (Key×V):=more.foldl (λa b=>putK a b.1 b.2) kvs
def KV.merge:∀{more:List (Key×V)}{rs:List (Key×Value)}{kvs:List (Key×V)}{vs:List (Key×Value)},KV more rs->KV kvs vs->KV (g7 kvs more) (merged vs rs):=by
 intro more rs kvs vs r;unfold KV at r;induction r generalizing kvs vs with
 |nil=>intro q;exact q
 |@cons p q ps c h t a=>
  intro b;have e:KV (putK kvs p.1 p.2) (stored vs q.1 q.2):=by
   have:=b.put p.1 h.2;rw[<-h.1];exact this
  exact a e
theorem jO:∀(more kvs:List (Key×V)),(g7 kvs more).length<=kvs.length+more.length
 |[],kvs=>by show kvs.length<=kvs.length+0;omega
 |p :: r,kvs=>by
  have a:=jO r (putK kvs p.1 p.2);have b:=lS kvs p.1 p.2;show(g7 (putK kvs p.1 p.2) r).length<=_;rw[aal];omega
theorem rN{P:Program}{w:World}:∀{kvs:List (Key×V)}{ws:List (Value×Value)},VV (kvs.map λkv=>(kV kv.1,kv.2)) ws->∃rs,Carries (aQ P w) ws rs/\KV kvs rs
 |[],_,r=>by rw[aco]at r;cases r;exact⟨[],True.intro,.nil⟩
 |p :: kvs,_,r=>by
  rw[aai]at r;cases r with
  |@cons a b e bs h t=>
   obtain⟨rs,c,q⟩:=rN (P:=P) (w:=w) t;obtain⟨f,d⟩:=b;exact⟨(p.1,d) :: rs,⟨pN h.1,rfl,c⟩,.cons ⟨rfl,h.2⟩ q⟩
structure M2(X:Cx)(o:Expr)(m:Str)(apos:Pos)(e f:Expr)(cpos:Pos):Prop where
 base:attributeBase o m X.env (eval o X.env)=eval o X.env
 few:((backTo cpos (starEach [e,f] X.env)).all (λx=>!x.1)&&(backToKw cpos (keywordEach [] X.env)).all (λx=>x.1.isSome)
  &&decide (([e,f]:List Expr).length+([]:List Keyword).length+(if ([]:List Keyword).isEmpty then 0 else 1)<30))=true
 line:(apos.endLine==cpos.line)=true
 trees:backTo cpos (starEach [e,f] X.env)=[(false,eval e X.env),(false,eval f X.env)]
def UI(H:Hp)(a:Addr):Prop:=(∃kvs,Rd H a (.dK kvs))\/∃kvs,Rd H a (.dT kvs)
def MY{X:Cx}{pins:List (Addr×Obj)}{σ:St}{H:Hp}{s:Shared}{a:Addr}(I:Inv X pins σ H s)(d:UI H a) :
  s.TypeIs (.ref a) "dict" /\(∀b,Value.ref a=.ref b->∃ob,s.heap.get? b=some ob/\ob.dict=none)/\(a==sysModules)=false:=by
 rcases d with ⟨kvs,e⟩|⟨kvs,e⟩
 .obtain⟨_,c,h,_,dd⟩:=m6 I.hok e;refine⟨dd.typeIs,λb q=>?_,c⟩;cases q;obtain⟨ob,_,_,f,g,_⟩:=dd;exact⟨ob,f,g.2.1⟩
 .obtain⟨_,c,i,_,dd⟩:=rK I.hok e;refine⟨dd.typeIs,λb q=>?_,c⟩;cases q;obtain⟨ob,_,_,f,g,_⟩:=dd;exact⟨ob,f,g.2.1⟩
section
variable{X:Cx}{pins:List (Addr×Obj)}{σ:St}{H:Hp}{s:Shared}{a:Addr}{y d:V}{u r:Value}{o:Option V}{A:Around}{E:Value->Shared->Prop}
def MZ{Q:Value->Shared->Prop}(hu:A.units+1<cLine)(I:Inv X pins σ H s)(g:m7 H a y o)(ry:RelV y u)(rd:RelV d r)(h:∀w' s',Inv X pins σ H s'->RelV (o.getD d) w'->Q w' s') :
  wpAny (model X.prog X.w) A (call (.builtin "dict.get") [.ref a,u,r]) Q E s:=by
 rcases g with ⟨kvs,k,e,f,l⟩|⟨kvs,k,b,e,f,j,l⟩
 .subst f;obtain⟨z,i,q,c,dd⟩:=m6 I.hok e;refine call_meetsIn PySem.F.slot_dict_get dd.typeIs PySem.F.entry_dict_get (PySem.F.args_dict_get_3 _ _ _) (meets_dict_get_default (aQ X.prog X.w) a (pN ry) i r) ⟨_,dd.mapOf,h _ _ (I.tok _) ?_⟩;rw[l];exact(c.val k).getD rd
 .subst f;cases (show u=Value.ref b from ry);obtain⟨z,i,p,c,dd⟩:=rK I.hok e;refine call_meetsIn PySem.F.slot_dict_get dd.typeIs PySem.F.entry_dict_get (PySem.F.args_dict_get_3 _ _ _) (meetsH_dict_get_default (tupleKind (aQ X.prog X.w)) a b i r) ⟨tupleKind_room_in1 hu,k,p,rJ I.hok j,dd,h _ _ (I.tok _) ?_⟩;rw[l];exact(c.val k).getD rd
end
noncomputable def M4(td ty tx:TE):TE:=λσ H Q=>td σ H λx H1=>∃a,x=.ref a/\UI H1 a/\ty σ H1 λy H2=>tx σ H2 λz H3=>∃o,m7 H3 a y o/\Q (o.getD z) H3
section
variable{X:Cx}{o e f:Expr}{apos cpos:Pos}{td ty tx:TE}
def FL (hu:X.A.units+1<cLine) (ho:PE X o td) (he:PE X e ty) (hf:PE X f tx) (m:M2 X o "get" apos e f cpos):PE X (.Call (.Attribute o "get" apos) [e,f] [] cpos) (M4 td ty tx):=by
 intro b s σ H Q I h;refine wpAny_Call_method m.base m.few m.line PySem.F.plainAttrs_dict PySem.F.slot_dict_get PySem.F.type_dict_get (bQ (ho b s σ H _ I h) λu s1 ⟨x,H1,I1,i,a,ex,d,j⟩=>?_);subst ex;obtain rfl:u=Value.ref a:=i;obtain⟨l,p,_⟩:=MY I1 d;refine⟨l,p,?_⟩;rw[m.trees];refine Calls.callWith_builtin rfl (Calls.evalArgs_plain (Calls.spliced_cons (bQ (he b s1 σ H1 _ I1 j) λG s2 ⟨y,H2,I2,q,r⟩=>
  Calls.spliced_cons (bQ (hf b s2 σ H2 _ I2 r) λJ s3 ⟨z,H3,I3,B,K,g,C⟩=>Calls.spliced_nil ?_))))
 exact MZ hu I3 g q B λL s4 I4 c=>⟨_,H3,I4,c,C⟩
end
end L2
namespace Ev
set_option genInjectivity true in
inductive D where
 |aD|bl (b:Bool)|int (i:Int)|str (s:List Nat)|tup (ds:List D)|ref (n:Nat)
structure Cl where
 cn:List Nat
 nm:List (List Nat)
 nv:Nat
 nl:Nat
 deriving DecidableEq
inductive O where
 |lst (ds:List D)|bK (ds:List D)
 |fj (kvs:List (List Nat×List Nat))
 |obj (c:Cl) (ds:List D)|jS (n k:Nat)
abbrev Hh:=List O
abbrev Fr:=List (Option D)
inductive R(α:Type) where
 |ok (a:α) (h:Hh)
 |bad
noncomputable def R.bind{α β:Type}(r:R α)(f:α->Hh->R β):R β:=
 match r with
 |.ok a h=>f a h
 |.bad=>.bad
@[simp] theorem ao{α β:Type}(a:α)(h:Hh)(f:α->Hh->R β):(R.ok a h).bind f=f a h:=rfl
@[simp] theorem FO{α β:Type}(f:α->Hh->R β):(R.bad:R α).bind f=.bad:=rfl
def ai{α β:Type}{r:R α}{f:α->Hh->R β}{b:β}{h:Hh}(e:r.bind f=.ok b h):∃a h1,r=.ok a h1/\f a h1=.ok b h:=by
 cases r with
 |ok a h1=>exact⟨a,h1,rfl,e⟩
 |bad=>cases e
noncomputable def R.of{α:Type}(o:Option α)(h:Hh):R α:=match o with
 |some a=>.ok a h
 |none=>.bad
@[simp] theorem cR{α:Type}(a:α)(h:Hh):R.of (some a) h=.ok a h:=rfl
@[simp] theorem of_none{α:Type}(h:Hh):R.of (none:Option α) h=.bad:=rfl
def aF{α:Type}{o:Option α}{h h':Hh}{a:α}(e:R.of o h=.ok a h'):o=some a/\h'=h:=by
 cases o with
 |none=>cases e
 |some b=>cases e;exact⟨rfl,rfl⟩
inductive bV where
 |add|sub|mul|fdiv|mod
inductive bR where
 |eq|ne|lt|gt
 |isin|m8
 |zI|lT
inductive TY where
 |int|bool|str|tuple|list
inductive BI where
 |len|sum|min
 |sorted
 |kU
inductive ME where
 |join|append|extend|pop
 |count|index
inductive FU where
 |len|CT
 |oJ|qI|tB
inductive FM where
 |app
 |dput|qJ
inductive T where
 |one (i:Nat)|many (l:List Nat)
set_option genSizeOf true in
mutual
inductive E where
 |c (d:D)|v (i:Nat)|tup (es:Es)|lst (es:Es)
 |bin (o:bV) (a b:E)|cmp (o:bR) (a b:E)
 |nt (a:E)|neg (a:E)|an (a b:E)|orr (a b:E)|fW (t a b:E)
 |ix (a b:E)|sl (a:E) (lo hi:Eo)
 |cl (f:Nat) (es:Es)|bi (b:BI) (es:Es)|me (m:ME) (o:E) (es:Es)
 |comp (elt:E) (t:T) (it:It) (cond:Eo)
 |jF (it:It)
 |jT (a:E)
 |nN (kvs:List (List Nat×List Nat))|nP (a k:E)
 |fu (c:Cl) (o:FU) (i k:Nat) (es:Es)|fm (c:Cl) (o:FM) (i k:Nat) (es:Es)
inductive Es where
 |nil|cons (e:E) (es:Es)
inductive Eo where
 |no|yes (e:E)
inductive It where
 |seq (e:E)|jh (es:Es)
 |rev (a:E)
 |qq (c:Cl) (i:Nat)
end
mutual
inductive S where
 |set (i:Nat) (e:E)
 |exp (e:E)|ret (e:E)|iff (t:E) (a b:Ss)|for (t:T) (it:It) (b:Ss)|qt (t:E) (b:Ss)
 |pass|brk|cnt
 |gp (c:Nat)
 |nQ (i:Nat) (es:Es)
inductive Ss where
 |nil|cons (s:S) (ss:Ss)
end
inductive Fl where
 |nx|bk|ct|ret (d:D)
noncomputable def big:Nat:=16777216
noncomputable def cU(f:D->D->Option Bool):List D->List D->Option Bool
 |[],[]=>some true
 |x :: xs,y :: ys=>do
  let b <-f x y
  let c <-cU f xs ys
  pure (b&&c)
 |_,_=>some false
noncomputable def bO(h:Hh)(n:Nat):Option (List D):=match h[n]? with
 |some (.lst ds)=>some ds
 |some (.bK ds)=>some ds
 |_=>none
noncomputable def b2i(b:Bool):Int:=if b then 1 else 0
noncomputable def kq(h:Hh)(f:D->D->Option Bool)(a b:Nat):Option Bool:=if a=b then (bO h a).map λ_=>true else match h[a]?,h[b]? with
 |some (.lst x),some (.lst y)=>cU f x y
 |some (.bK x),some (.lst y)=>cU f x y
 |some (.lst x),some (.bK y)=>cU f x y
 |_,_=>none
noncomputable def dW(h:Hh):Nat->D->D->Option Bool
 |0,_,_=>none
 |_+1,.aD,.aD=>some true
 |_+1,.bl a,.bl b=>some (a==b)
 |_+1,.int a,.int b=>some (a==b)
 |_+1,.bl a,.int b=>some (b2i a==b)
 |_+1,.int a,.bl b=>some (a==b2i b)
 |_+1,.str a,.str b=>some (a==b)
 |n+1,.tup a,.tup b=>cU (dW h n) a b
 |n+1,.ref a,.ref b=>kq h (dW h n) a b
 |_+1,.ref a,_=>(bO h a).map λ_=>false
 |_+1,_,.ref a=>(bO h a).map λ_=>false
 |_+1,_,_=>some false
noncomputable def deep:Nat:=20
noncomputable def truthy(h:Hh):D->Option Bool
 |.aD=>some false
 |.bl b=>some b
 |.int i=>some (i != 0)
 |.str s=>some (!s.isEmpty)
 |.tup ds=>some (!ds.isEmpty)
 |.ref n=>match h[n]? with
  |some (.fj kvs)=>some (!kvs.isEmpty)
  |_=>(bO h n).map λds=>!ds.isEmpty
noncomputable def alloc(ds:List D)(h:Hh):R D:=if ds.length<=big then .ok (.ref h.length) (h++[.lst ds])else .bad
noncomputable def rep{α:Type}(k:Nat)(l:List α):List α:=(List.replicate k l).flatten
noncomputable def cG(i j:Int):Bool:=(decide (-(2 ^ 64)<i)&&decide (i<2 ^ 64)) || (decide (-(2 ^ 64)<j)&&decide (j<2 ^ 64))
noncomputable def bW:bV->D->D->Hh->R D
 |.add,.int i,.int j,h=>.ok (.int (i+j)) h
 |.add,.str a,.str b,h=>if a.length+b.length<=big then .ok (.str (a++b)) h else .bad
 |.add,.tup a,.tup b,h=>if a.length+b.length<=big then .ok (.tup (a++b)) h else .bad
 |.add,.ref a,.ref b,h=>match h[a]?,h[b]? with
  |some (.lst x),some (.lst y)=>alloc (x++y) h
  |_,_=>.bad
 |.sub,.int i,.int j,h=>.ok (.int (i - j)) h
 |.mul,.int i,.int j,h=>if cG i j then .ok (.int (i*j)) h else .bad
 |.mul,.str a,.int k,h=>if 0<=k/\k<=1000/\a.length<=1000 then .ok (.str (rep k.toNat a)) h else .bad
 |.mul,.tup a,.int k,h=>if 0<=k/\k<=1000/\a.length<=1000 then .ok (.tup (rep k.toNat a)) h else .bad
 |.mul,.ref a,.int k,h=>match h[a]? with
  |some (.lst x)=>if 0<=k/\k<=1000/\x.length<=1000 then alloc (rep k.toNat x) h else .bad
  |_=>.bad
 |.fdiv,.int i,.int j,h=>if 0<j/\j<1073741824 then .ok (.int (i / j)) h else .bad
 |.mod,.int i,.int j,h=>if 0<j then .ok (.int (i % j)) h else .bad
 |_,_,_,_=>.bad
noncomputable def mem(h:Hh)(x:D):List D->Option Bool
 |[]=>some false
 |y :: ys=>do
  let b <-dW h deep y x
  let c <-mem h x ys
  pure (b ||c)
noncomputable def isin(x y:D)(h:Hh):Option Bool:=match y with
 |.str s=>match x with
  |.str [c]=>some (s.contains c)
  |_=>none
 |.tup ds=>mem h x ds
 |.ref n=>(bO h n).bind λds=>mem h x ds
 |_=>none
noncomputable def lexLe:List Nat->List Nat->Bool
 |[],_=>true
 |_ :: _,[]=>false
 |x :: xs,y :: ys=>if x=y then lexLe xs ys else decide (x<y)
noncomputable def cop(o:bR)(x y:D)(h:Hh):Option Bool:=match o,x,y with
 |.eq,x,y=>dW h deep x y
 |.ne,x,y=>(dW h deep x y).map (!·)
 |.lt,.int i,.int j=>some (decide (i<j))
 |.gt,.int i,.int j=>some (decide (j<i))
 |.isin,x,y=>isin x y h
 |.m8,x,y=>(isin x y h).map (!·)
 |.zI,x,.aD=>some (match x with|.aD=>true|_=>false)
 |.lT,x,.aD=>some (match x with|.aD=>false|_=>true)
 |_,_,_=>none
noncomputable def eV(n:Nat)(i:Int):Option Nat:=if 0<=i then (if i<n then some i.toNat else none)else if -(n:Int)<=i then some (i+n).toNat else none
noncomputable def bU{α:Type}(xs:List α)(i:Int):Option α:=(eV xs.length i).bind λj=>xs[j]?
noncomputable def gj(x y:D)(h:Hh):Option D:=match x,y with
 |.tup ds,.int i=>bU ds i
 |.str s,.int i=>(bU s i).map λc=>.str [c]
 |.ref n,.int i=>(bO h n).bind λds=>bU ds i
 |_,_=>none
noncomputable def bg(n d:Nat):Option Int->Nat
 |none=>d
 |some v=>if v<0 then (v+n).toNat else min v.toNat n
noncomputable def cut{α:Type}(xs:List α)(lo hi:Option Int):List α:=(xs.drop (bg xs.length 0 lo)).take (bg xs.length xs.length hi - bg xs.length 0 lo)
noncomputable def fX(x:D)(lo hi:Option Int)(h:Hh):R D:=match x with
 |.tup ds=>.ok (.tup (cut ds lo hi)) h
 |.str s=>.ok (.str (cut s lo hi)) h
 |.ref n=>match bO h n with
  |some ds=>alloc (cut ds lo hi) h
  |none=>.bad
 |_=>.bad
noncomputable def boolsOf:List D->Option (List Bool)
 |[]=>some []
 |.bl b :: ds=>(boolsOf ds).map λr=>b :: r
 |_=>none
noncomputable def intsOf:List D->Option (List Int)
 |[]=>some []
 |.int i :: ds=>(intsOf ds).map λr=>i :: r
 |_=>none
noncomputable def strsOf:List D->Option (List (List Nat))
 |[]=>some []
 |.str s :: ds=>(strsOf ds).map λr=>s :: r
 |_=>none
noncomputable def cX(sep:List Nat):List (List Nat)->List Nat
 |[]=>[]
 |[s]=>s
 |s :: t :: r=>s++sep++cX sep (t :: r)
noncomputable def m9(x:List Nat):List (List Nat)->List (List Nat)
 |[]=>[x]
 |y :: ys=>if lexLe x y then x :: y :: ys else y :: m9 x ys
noncomputable def br:List (List Nat)->List (List Nat)
 |[]=>[]
 |x :: xs=>m9 x (br xs)
noncomputable def tD(kvs:List (List Nat×List Nat))(k:List Nat):Option (List Nat):=(kvs.find? λp=>decide (p.1=k)).map (·.2)
noncomputable def wg(x y:D)(h:Hh):Option D:=match x,y with
 |.ref n,.str k=>match h[n]? with
  |some (.fj kvs)=>(tD kvs k).bind λs=>if s=[]then none else some (.str s)
  |_=>none
 |_,_=>none
noncomputable def dd{α:Type}[DecidableEq α](l:List α):List α:=l.foldl (λa k=>if k∈a then a else a++[k]) []
noncomputable def cY(b:BI)(xs:List D)(h:Hh):R D:=match b,xs with
 |.len,[.str s]=>if s.length<=big then .ok (.int s.length) h else .bad
 |.len,[.tup ds]=>.ok (.int ds.length) h
 |.len,[.ref n]=>R.of ((bO h n).map λds=>.int ds.length) h
 |.sum,[.ref n]=>R.of (((bO h n).bind intsOf).map λis=>.int is.sum) h
 |.min,[.int i,.int j]=>.ok (.int (if j<i then j else i)) h
 |.sorted,[.ref n]=>match (bO h n).bind strsOf with
  |some a=>if a.length<64 then alloc ((br a).map .str) h else .bad
  |none=>.bad
 |.kU,[.ref n]=>match (bO h n).bind strsOf with
  |some a=>if a.length<4095/\(dd a).length<64 then alloc ((br (dd a)).map .str) h else .bad
  |none=>.bad
 |_,_=>.bad
noncomputable def idx(h:Hh)(x:D):List D->Nat->Option Nat
 |[],_=>none
 |y :: ys,k=>match dW h deep y x with
  |some true=>some k
  |some false=>idx h x ys (k+1)
  |none=>none
noncomputable def cnt(h:Hh)(x:D):List D->Option Nat
 |[]=>some 0
 |y :: ys=>do
  let b <-dW h deep y x
  let k <-cnt h x ys
  pure (if b then k+1 else k)
noncomputable def eF(m:ME)(o:D)(xs:List D)(h:Hh):R D:=match m,o,xs with
 |.join,.str sep,[.ref n]=>match (bO h n).bind strsOf with
  |some a=>if (a.map (·.length)).sum+a.length*sep.length<=big then .ok (.str (cX sep a)) h else .bad
  |none=>.bad
 |.append,.ref n,[x]=>match h[n]? with
  |some (.lst ds)=>if ds.length<big then .ok .aD (h.set n (.lst (ds++[x])))else .bad
  |_=>.bad
 |.extend,.ref n,[.ref m]=>match h[n]?,h[m]? with
  |some (.lst ds),some (.lst es)=>if ds.length+es.length<=big then .ok .aD (h.set n (.lst (ds++es)))else .bad
  |_,_=>.bad
 |.pop,.ref n,[]=>match h[n]? with
  |some (.lst ds)=>match ds[ds.length - 1]? with
   |some x=>.ok x (h.set n (.lst ds.dropLast))
   |none=>.bad
  |_=>.bad
 |.count,.ref n,[.str t]=>R.of (((bO h n).bind (cnt h (.str t))).map λ(k:Nat)=>.int k) h
 |.count,.ref n,[.aD]=>R.of (((bO h n).bind (cnt h .aD)).map λ(k:Nat)=>.int k) h
 |.index,.ref n,[x]=>R.of (((bO h n).bind λds=>idx h x ds 0).map λ(k:Nat)=>.int k) h
 |_,_,_=>.bad
noncomputable def nR(m:ME)(x:D)(h:Hh):Bool:=match m,x with
 |.join,.str _=>true
 |.join,_=>false
 |_,.ref n=>(bO h n).isSome
 |_,_=>false
noncomputable def nc(x:D):List (D×D)->Option D
 |[]=>none
 | (k,v) :: r=>match dW [] 1 k x with
  |some true=>some v
  |some false=>nc x r
  |none=>none
abbrev Src:=List D×List (Nat×List D)
noncomputable def gI(h:Hh):D->Option Src
 |.tup ds=>some (ds,[])
 |.str s=>some (s.map λc=>.str [c],[])
 |.ref n=>(bO h n).map λds=>(ds,[(n,.int 0 :: ds)])
 |_=>none
noncomputable def range(lo:Int)(n:Nat):List D:=(List.range n).map λ(i:Nat)=>.int (lo+i)
noncomputable def oM(hi:Int)(n:Nat):List D:=(List.range n).map λ(i:Nat)=>.int (hi - i)
noncomputable def fE:List D->Option Src
 |[.int j]=>if -(2 ^ 62)<=j/\j<2 ^ 62 then some (range 0 j.toNat,[])else none
 |[.int i,.int j]=>if -(2 ^ 62)<=i/\i<2 ^ 62/\-(2 ^ 62)<=j/\j<2 ^ 62 then some (range i (j - i).toNat,[])else none
 |[.int i,.int j,.int k]=>if k = -1/\-(2 ^ 62)<=i/\i<2 ^ 62/\-(2 ^ 62)<=j/\j<2 ^ 62 then some (oM i (i - j).toNat,[])else none
 |_=>none
noncomputable def jY:Int->List D->List D
 |_,[]=>[]
 |k,x :: xs=>.tup [.int k,x] :: jY (k+1) xs
noncomputable def Bp(a b:List D):Bool:=@decide (a=b) (Classical.propDecidable _)
def ur(a b:List D):Bp a b=true↔a=b:=@decide_eq_true_iff _ (Classical.propDecidable _)
@[simp] theorem Bq(a:List D):Bp a a=true:=(ur a a).mpr rfl
noncomputable def Xz:O->List D
 |.lst ds=>.int 0 :: ds
 |.bK ds=>.int 0 :: ds
 |.obj _ ds=>.int 1 :: ds
 |_=>[]
noncomputable def gq(h:Hh)(n:Nat):Option (List D):=h[n]?.map Xz
noncomputable def stays(h:Hh):List (Nat×List D)->Bool
 |[]=>true
 | (n,ds) :: r=>(match gq h n with|some es=>Bp es ds|none=>false)&&stays h r
noncomputable def di:List Nat->List D->Fr->Option Fr
 |[],[],fr=>some fr
 |i :: is,d :: ds,fr=>di is ds (fr.set i (some d))
 |_,_,_=>none
noncomputable def cS:T->D->Fr->Option Fr
 |.one i,d,fr=>some (fr.set i (some d))
 |.many l,.tup ds,fr=>di l ds fr
 |_,_,_=>none
noncomputable def slots:T->List Nat
 |.one i=>[i]
 |.many l=>l
noncomputable def undef(t:T)(fr:Fr):Bool:=(slots t).all λi=>(fr[i]?.join).isNone
noncomputable def FP:D->Option (List D)
 |.tup ds=>some ds
 |_=>none
noncomputable def tE:D->Hh->R D
 |.tup ds,h=>.ok (.tup ds) h
 |.ref n,h=>match bO h n with
  |some ds=>if ds.length<=big then .ok (.tup ds) h else .bad
  |none=>.bad
 |_,_=>.bad
noncomputable def M5(h:Hh):D->Option Src
 |.ref n=>(bO h n).map λds=>(ds,[(n,.int 0 :: ds)])
 |_=>none
noncomputable def cZ(f:D->Hh->R (Option D))(ck:List (Nat×List D)):List D->Hh->R (List D)
 |[],h=>if stays h ck then .ok [] h else .bad
 |d :: ds,h=>if stays h ck then (f d h).bind λo a=>(cZ f ck ds a).bind λr b=>.ok (o.toList++r) b else .bad
noncomputable def forL(f:D->Fr->Hh->R (Fl×Fr))(ck:List (Nat×List D)):List D->Fr->Hh->R (Fl×Fr)
 |[],fr,h=>if stays h ck then .ok (.nx,fr) h else .bad
 |d :: ds,fr,h=>if stays h ck then (f d fr h).bind λp a=>match p.1 with
   |.nx=>forL f ck ds p.2 a
   |.ct=>forL f ck ds p.2 a
   |.bk=>.ok (.nx,p.2) a
   |.ret x=>.ok (.ret x,p.2) a
  else .bad
noncomputable def eO(t:Fr->Hh->R Bool)(f:Fr->Hh->R (Fl×Fr)):Nat->Fr->Hh->R (Fl×Fr)
 |0,_,_=>.bad
 |n+1,fr,h=>(t fr h).bind λb c=>if b then (f fr c).bind λp a=>match p.1 with
   |.nx=>eO t f n p.2 a
   |.ct=>eO t f n p.2 a
   |.bk=>.ok (.nx,p.2) a
   |.ret x=>.ok (.ret x,p.2) a
  else .ok (.nx,fr) c
abbrev aS:=Nat->List D->Hh->R D
noncomputable def intOf:D->Option Int
 |.int i=>some i
 |_=>none
noncomputable def Zb(h:Hh):D->Bool
 |.ref n=>match h[n]? with
  |some (.obj _ _)=>false
  |some (.jS _ _)=>false
  |_=>true
 |_=>true
noncomputable def ku(c:Cl)(h:Hh):Option D->Option (Nat×List D)
 |some (.ref n)=>match h[n]? with
  |some (.obj c' ds)=>if c'=c then some (n,ds)else none
  |_=>none
 |_=>none
noncomputable def wj(c:Cl)(ds:List D)(k:Nat):Option (List D):=if c.nv<=k/\k<c.nl then (match ds[k]? with
  |some (.tup es)=>some es
  |_=>none)else none
noncomputable def cD:Cl:=⟨[],[[]],0,1⟩
noncomputable def g8(p:List Nat×Int):D:=.tup [.str p.1,.int p.2]
noncomputable def gr:List D->Option (List (List Nat×Int))
 |[]=>some []
 |.tup [.str k,.int v] :: ds=>(gr ds).map λr=>(k,v) :: r
 |_=>none
noncomputable def qK:List D->Option (List (List Nat×Int))
 |.aD :: ds=>gr ds
 |ds=>gr ds
noncomputable def FQ:List D->Option (List (List Nat×Int))
 |.aD :: ds=>gr ds
 |_=>none
noncomputable def fJ(ps:List (List Nat×Int))(k:List Nat)(v:Int):List (List Nat×Int):=if (ps.any λp=>decide (p.1=k))then ps.map λp=>if p.1=k then (p.1,v)else p else ps++[(k,v)]
noncomputable def cV:List (List Nat×Int)->List Nat->Option Int
 |[],_=>none
 |p :: ps,k=>if p.1=k then some p.2 else cV ps k
noncomputable def mw(ps:List (List Nat×Int)):List (List Nat×Int):=ps.foldl (λa p=>fJ a p.1 p.2) []
noncomputable def wk(as:List D)(h:Hh):Option (List (List Nat×Int)):=match as with
 |[]=>some []
 |[.ref n]=>(bO h n).bind λds=>(gr ds).bind λps=>if ps.length<=100000 then some (mw ps)else none
 |_=>none
noncomputable def rO(o:FU)(es as:List D)(h:Hh):R D:=match o,as with
 |.len,[]=>.ok (.int es.length) h
 |.CT,[.int j]=>alloc (cut es (some j) none) h
 |.oJ,[.str k]=>R.of (((qK es).bind λps=>cV ps k).map .int) h
 |.qI,[.str k]=>R.of ((gr es).map λps=>.int ((cV ps k).getD 0)) h
 |.tB,[]=>match qK es with
  |some ps=>if ps.length<64 then alloc ((br (ps.map (·.1))).map .str) h else .bad
  |none=>.bad
 |_,_=>.bad
noncomputable def wm(o:FM)(es as:List D):Option (D×List D):=match o,as with
 |.app,[x]=>if es.length<big then some (.aD,es++[x])else none
 |.qJ,[]=>(gr es).map λ_=>(.aD,.aD :: es)
 |.dput,[.str k,.int v]=>if es.length<100000 then (gr es).map λps=>(.aD,(fJ ps k v).map g8)else none
 |_,_=>none
noncomputable def Zc(c:Cl)(fr:Fr)(h:Hh):Es->Bool
 |.cons (.v i) _=>(ku c h fr[i]?.join).isSome
 |_=>false
mutual
noncomputable def ev(P:aS):E->Fr->Hh->R D
 |.c d,_,h=>.ok d h
 |.v i,fr,h=>R.of (fr[i]?.join) h
 |.tup es,fr,h=>(bL P es fr h).bind λds e=>if ds.length<=big then .ok (.tup ds) e else .bad
 |.lst es,fr,h=>(bL P es fr h).bind λds e=>alloc ds e
 |.bin o a b,fr,h=>(ev P a fr h).bind λx e=>(ev P b fr e).bind λy g=>bW o x y g
 |.cmp o a b,fr,h=>(ev P a fr h).bind λx e=>(ev P b fr e).bind λy g=>R.of ((cop o x y g).map .bl) g
 |.nt a,fr,h=>(ev P a fr h).bind λx e=>match x with
   |.bl b=>.ok (.bl (!b)) e
   |_=>.bad
 |.neg a,fr,h=>(ev P a fr h).bind λx e=>match x with
   |.int i=>.ok (.int (-i)) e
   |_=>.bad
 |.an a b,fr,h=>(ev P a fr h).bind λx e=>match x with
   |.bl true=>ev P b fr e
   |.bl false=>.ok (.bl false) e
   |_=>.bad
 |.orr a b,fr,h=>(ev P a fr h).bind λx e=>match x with
   |.bl true=>.ok (.bl true) e
   |.bl false=>ev P b fr e
   |_=>.bad
 |.fW t a b,fr,h=>(aN P t fr h).bind λk e=>if k then ev P a fr e else ev P b fr e
 |.ix a b,fr,h=>(ev P a fr h).bind λx e=>(ev P b fr e).bind λy g=>R.of (gj x y g) g
 |.sl a lo hi,fr,h=>(ev P a fr h).bind λx e=>(gk P lo fr e).bind λl g=>(gk P hi fr g).bind λu j=>fX x l u j
 |.cl f es,fr,h=>(bL P es fr h).bind λds e=>P f ds e
 |.bi b es,fr,h=>(bL P es fr h).bind λds e=>cY b ds e
 |.me m o es,fr,h=>(ev P o fr h).bind λx e=>if nR m x e then (bL P es fr e).bind λds g=>eF m x ds g else .bad
 |.comp elt t it cond,fr,h=>(dj P it fr h).bind λs e=>if undef t fr then
   (cZ (λd g=>match cS t d fr with
    |none=>.bad
    |some z=>(iT P cond z g).bind λk j=>if k then (ev P elt z j).bind λx A=>.ok (some x) A else .ok none j) s.2 s.1 e).bind λds g=>alloc ds g else .bad
 |.jF it,fr,h=>(dj P it fr h).bind λs e=>alloc s.1 e
 |.nN kvs,_,h=>if kvs=[]then .bad else .ok (.ref h.length) (h++[.fj kvs])
 |.nP a k,fr,h=>(ev P a fr h).bind λx e=>(ev P k fr e).bind λy g=>R.of (wg x y g) g
 |.jT a,fr,h=>(ev P a fr h).bind λx e=>tE x e
 |.fu c o i k es,fr,h=>if (ku c h fr[i]?.join).isSome then (bL P es fr h).bind λq e=>match ku c e fr[i]?.join with
   |some (_,ds)=>(R.of (wj c ds k) e).bind λr g=>rO o r q g
   |none=>.bad
  else .bad
 |.fm c o i k es,fr,h=>if (ku c h fr[i]?.join).isSome then (bL P es fr h).bind λq e=>match ku c e fr[i]?.join with
   |some (n,ds)=>(R.of ((wj c ds k).bind λr=>wm o r q) e).bind λp g=>.ok p.1 (g.set n (.obj c (ds.set k (.tup p.2))))
   |none=>.bad
  else .bad
noncomputable def bL(P:aS):Es->Fr->Hh->R (List D)
 |.nil,_,h=>.ok [] h
 |.cons e es,fr,h=>(ev P e fr h).bind λd a=>(bL P es fr a).bind λds b=>.ok (d :: ds) b
noncomputable def gk(P:aS):Eo->Fr->Hh->R (Option Int)
 |.no,_,h=>.ok none h
 |.yes e,fr,h=>(ev P e fr h).bind λd a=>R.of ((intOf d).map some) a
noncomputable def iT(P:aS):Eo->Fr->Hh->R Bool
 |.no,_,h=>.ok true h
 |.yes e,fr,h=>aN P e fr h
noncomputable def aN(P:aS):E->Fr->Hh->R Bool
 |.an a b,fr,h=>(aN P a fr h).bind λk c=>if k then aN P b fr c else .ok false c
 |.orr a b,fr,h=>(aN P a fr h).bind λk c=>if k then .ok true c else aN P b fr c
 |.nt a,fr,h=>(aN P a fr h).bind λk c=>.ok (!k) c
 |e,fr,h=>(ev P e fr h).bind λx c=>R.of (truthy c x) c
noncomputable def dj(P:aS):It->Fr->Hh->R Src
 |.seq e,fr,h=>(ev P e fr h).bind λx b=>R.of (gI b x) b
 |.jh es,fr,h=>(bL P es fr h).bind λds b=>R.of (fE ds) b
 |.rev a,fr,h=>(ev P a fr h).bind λx b=>R.of ((FP x).map λds=>(ds.reverse,[])) b
 |.qq c i,fr,h=>match ku c h fr[i]?.join with
  |some (n,ds)=>R.of (((wj c ds 0).bind FQ).map λps=>(ps.map λp=>.str p.1,[(n,.int 1 :: ds)])) h
  |none=>.bad
end
mutual
noncomputable def ex(P:aS)(w:Nat):S->Fr->Hh->R (Fl×Fr)
 |.set i e,fr,h=>(ev P e fr h).bind λx c=>.ok (.nx,fr.set i (some x)) c
 |.exp e,fr,h=>(ev P e fr h).bind λ_ c=>.ok (.nx,fr) c
 |.ret e,fr,h=>(ev P e fr h).bind λx c=>.ok (.ret x,fr) c
 |.iff t a b,fr,h=>(aN P t fr h).bind λk c=>if k then exs P w a fr c else exs P w b fr c
 |.for t it b,fr,h=>(dj P it fr h).bind λs c=>forL (λd g f=>match cS t d g with
   |some j=>exs P w b j f
   |none=>.bad) s.2 s.1 fr c
 |.qt t b,fr,h=>eO (λg f=>aN P t g f) (λg f=>exs P w b g f) w fr h
 |.pass,fr,h=>.ok (.nx,fr) h
 |.brk,fr,h=>.ok (.bk,fr) h
 |.cnt,fr,h=>.ok (.ct,fr) h
 |.gp _,_,_=>.bad
 |.nQ i es,fr,h=>(bL P es fr h).bind λl c=>(R.of (wk l c) c).bind λps f=>.ok (.nx,fr.set i (some (.ref f.length))) (f++[.obj cD [.tup (ps.map g8)]])
noncomputable def exs(P:aS)(w:Nat):Ss->Fr->Hh->R (Fl×Fr)
 |.nil,fr,h=>.ok (.nx,fr) h
 |.cons s ss,fr,h=>(ex P w s fr h).bind λp a=>match p.1 with
   |.nx=>exs P w ss p.2 a
   |_=>.ok p a
end
def fR(P:aS)(w:Nat)(fr:Fr)(h:Hh):(∀e,ex P w (.exp e) fr h=((ev P e fr h).bind λ_ h1=>.ok (.nx,fr) h1))
 /\(∀i e,ex P w (.set i e) fr h=((ev P e fr h).bind λx h1=>.ok (.nx,fr.set i (some x)) h1))
 /\(∀e,ex P w (.exp e) fr h=((ev P e fr h).bind λ_ h1=>.ok (.nx,fr) h1))
 /\(∀e,ex P w (.ret e) fr h=((ev P e fr h).bind λx h1=>.ok (.ret x,fr) h1))
 /\(∀t a b,ex P w (.iff t a b) fr h=((aN P t fr h).bind λk h1=>if k then exs P w a fr h1 else exs P w b fr h1))
 /\(∀t it b,ex P w (.for t it b) fr h=((dj P it fr h).bind λs h1=>forL (λd aq h2=>match cS t d aq with
   |some cI=>exs P w b cI h2
   |none=>.bad) s.2 s.1 fr h1))
 /\(∀t b,ex P w (.qt t b) fr h=(eO (λaq h2=>aN P t aq h2) (λaq h2=>exs P w b aq h2) w fr h))
 /\(ex P w .pass fr h=(.ok (.nx,fr) h))
 /\(ex P w .brk fr h=(.ok (.bk,fr) h))
 /\(ex P w .cnt fr h=(.ok (.ct,fr) h))
 /\(∀x1,ex P w (.gp x1) fr h=(.bad))
 /\(∀i es,ex P w (.nQ i es) fr h=((bL P es fr h).bind λas h1=>(R.of (wk as h1) h1).bind λps h2=>.ok (.nx,fr.set i (some (.ref h2.length))) (h2++[.obj cD [.tup (ps.map g8)]])))
 /\True:=by and_intros<;>intros<;>first|rfl|trivial
structure Fn where
 np:Nat
 ns:Nat
 body:Ss
noncomputable def eU(fn:Fn)(ds:List D):Fr:=ds.map some++List.replicate (fn.ns - fn.np) none
noncomputable def endOf(r:R (Fl×Fr)):R D:=r.bind λp h=>match p.1 with
 |.ret d=>.ok d h
 |.nx=>.ok .aD h
 |_=>.bad
noncomputable def run(F:List Fn)(w:Nat):Nat->aS
 |0,_,_,_=>.bad
 |n+1,f,ds,h=>match F[f]? with
  |some a=>if ds.length=a.np then endOf (exs (run F w n) w a.body (eU a ds) h)else .bad
  |none=>.bad
def rP(F:List Fn)(w n f:Nat)(ds:List D)(h:Hh):run F w (n+1) f ds h=match F[f]? with
  |some a=>if ds.length=a.np then endOf (exs (run F w n) w a.body (eU a ds) h)else .bad
  |none=>.bad:=rfl
end Ev
namespace Sm
open PySem PySem.Spec PyProof.Rows L2
noncomputable def aO(l:List Nat):Str:=⟨l.toArray⟩
def dz(l:List Nat):(aO l).length=l.length:=by simp[aO,Str.length]
def iI{a b:List Nat}(h:aO a=aO b):a=b:=by
 have c:a.toArray=b.toArray:=aau Str.cps h;simpa using aau Array.toList c
def kB:Ev.big=sizeLine:=by rw[aa8];rfl
section
variable(K:PySem.W.Frag)
mutual
def RV(H:Hp)(r:List Addr):Ev.D->V->Prop
 |.aD,v=>v=.aD
 |.bl b,v=>v=.bl b
 |.int i,v=>v=.int i
 |.str s,v=>v=.str (aO s)/\s.length<=sizeLine
 |.ref n,v=>∃a,v=.ref a/\r[n]?=some a
 |.tup ds,v=>∃a vs,v=.ref a/\dQ K H a vs/\aH H r ds vs
def aH(H:Hp)(r:List Addr):List Ev.D->List V->Prop
 |[],vs=>vs=[]
 |d :: ds,vs=>∃v w,vs=v :: w/\RV H r d v/\aH H r ds w
end
def Br(H:Hp)(a:Addr)(vs:List V):Prop:=(∃o,H a=some (.bK o (.lst vs)))\/
 ∃(o:Obj) (its:Array Value) (n:Nat),K.lookup a=some o/\o.cls=.type "list" /\o.dict=none/\o.data=.seq its n/\its.size<=sizeLine/\Vals vs its.toList
noncomputable def dv(s:List Nat):V:=if s=[]then .bl true else .str (aO s)
noncomputable def jP(kvs:List (List Nat×List Nat)):List (Key×V):=kvs.map λp=>(Sum.inr (aO p.1),dv p.2)
def RO(H:Hp)(r:List Addr):Ev.O->Addr->Prop
 |.lst ds,a=>∃vs,H a=some (.lst vs)/\aH K H r ds vs
 |.bK ds,a=>∃vs,Br K H a vs/\aH K H r ds vs
 |.fj kvs,a=>H a=some (.dK (jP kvs))/\kvs≠[]/\∀p∈kvs,p.2.length<=sizeLine
 |.obj _ _,_=>True
 |.jS _ _,_=>True
noncomputable def b9(ps:List (List Nat×Int)):List (Key×V):=ps.map λp=>(Sum.inr (aO p.1),V.int p.2)
structure uu(H:Hp)(r:List Addr)(n:Nat)(ds:List Ev.D)(a:Addr):Prop where
 at_:r[n]?=some a
 dc:∃ps:List (List Nat×Int),(∀p∈ps,p.1.length<=sizeLine)/\((ds=[.tup (ps.map Ev.g8)]/\H a=some (.dK (b9 ps)))\/(ds=[.tup (.aD :: ps.map Ev.g8)]/\∃o,H a=some (.bK o (.dK (b9 ps)))))
noncomputable def Ic:Ev.O->Bool
 |.lst _=>true
 |.jS _ _=>true
 |_=>false
def Wz(_:HO):Prop:=True
structure OX(H:Hp)(r:List Addr)(h:Ev.Hh):Prop where
 tr:K=K:=rfl
 ob:∀(n:Nat) c ds,h[n]?=some (.obj c ds)->∃a,uu H r n ds a
 pv:∀(m n k:Nat),h[m]?=some (.jS n k)->∃a o,r[m]?=some a/\H a=some o/\Wz o
 jp:∀(m m':Nat) a n k o,r[m]?=some a->r[m']?=some a->h[m]?=some (.jS n k)->h[m']?=some o->Ic o=true->m=m'
 jo:∀(n n':Nat) a c ds c' ds',r[n]?=some a->r[n']?=some a->h[n]?=some (.obj c ds)->h[n']?=some (.obj c' ds')->n=n'
structure HR(H:Hp)(r:List Addr)(h:Ev.Hh):Prop where
 len:r.length=h.length
 ob:∀(n:Nat) o,h[n]?=some o->∃a,r[n]?=some a/\RO K H r o a
 inj:∀(n m:Nat) a x y,r[n]?=some a->r[m]?=some a->h[n]?=some (.lst x)->h[m]?=some (.lst y)->n=m
 ox:OX K H r h
structure Fm(r r':List Addr)(H H':Hp):Prop where
 pre:∀(n:Nat) a,r[n]?=some a->r'[n]?=some a
 new:∀a∈r',a∈r\/H a=none
 keep:∀a o,H a=some o->a∉r->H' a=some o
 tups:∀a vs,dQ K H a vs->dQ K H' a vs
 fin:∀a o u,H a=some (.bK o u)->H' a=some (.bK o u)
end
section
variable{K:PySem.W.Frag}{H H1 H2:Hp}{r r1 r2:List Addr}{h:Ev.Hh}
def Fm.refl:Fm K r r H H:=⟨λ_ _ e=>e,λ_ e=>.inl e,λ_ _ e _=>e,λ_ _ e=>e
 ,λ_ _ _ e=>e
 ⟩
def Fm.trans(a:Fm K r r1 H H1)(b:Fm K r1 r2 H1 H2):Fm K r r2 H H2 where
 pre:=λn x e=>b.pre n x (a.pre n x e)
 new:=λx e=>by
  rcases b.new x e with q|q
  .exact a.new x q
  .by_cases z:x∈r
   .exact .inl z
   .refine .inr ?_;cases w:H x with
    |none=>rfl
    |some o=>rw[a.keep x o w z]at q;cases q
 keep:=λx o e n=>by
  refine b.keep x o (a.keep x o e n) λz=>?_;rcases a.new x z with q|q
  .exact n q
  .rw[e]at q;cases q
 tups:=λx c e=>b.tups x c (a.tups x c e)
 fin:=λx o u e=>b.fin x o u (a.fin x o u e)
mutual
theorem RV.grow(f:∀(n:Nat) a,r[n]?=some a->r1[n]?=some a)(g:∀a vs,dQ K H a vs->dQ K H1 a vs):∀{d:Ev.D}{v:V},RV K H r d v->RV K H1 r1 d v
 |.aD,_,e=>e
 |.bl _,_,e=>e
 |.int _,_,e=>e
 |.str _,_,e=>e
 |.ref n,_,⟨a,e,z⟩=>⟨a,e,f n a z⟩
 |.tup ds,_,⟨a,vs,e,z,q⟩=>⟨a,vs,e,g a vs z,aH.grow f g q⟩
theorem aH.grow(f:∀(n:Nat) a,r[n]?=some a->r1[n]?=some a)(g:∀a vs,dQ K H a vs->dQ K H1 a vs):∀{ds:List Ev.D}{vs:List V},aH K H r ds vs->aH K H1 r1 ds vs
 |[],_,e=>e
 |_ :: _,_,⟨v,w,e,z,q⟩=>⟨v,w,e,RV.grow f g z,aH.grow f g q⟩
end
def RV.mono(f:Fm K r r1 H H1){d:Ev.D}{v:V}(q:RV K H r d v):RV K H1 r1 d v:=q.grow f.pre f.tups
def aH.mono(f:Fm K r r1 H H1){ds:List Ev.D}{vs:List V}(q:aH K H r ds vs):aH K H1 r1 ds vs:=q.grow f.pre f.tups
def aH.nil:aH K H r [] []:=by simp[aH]
def aH.cons{d:Ev.D}{v:V}{ds:List Ev.D}{vs:List V}(a:RV K H r d v)(b:aH K H r ds vs):aH K H r (d :: ds) (v :: vs):=by
 simp only[aH];exact⟨v,vs,rfl,a,b⟩
theorem aH.length:∀{ds:List Ev.D}{vs:List V},aH K H r ds vs->vs.length=ds.length
 |[],_,e=>by simp only[aH]at e;subst e;rfl
 |_ :: _,_,e=>by
  simp only[aH]at e;obtain⟨v,w,rfl,_,q⟩:=e;simp[aH.length q]
theorem aH.get:∀{ds:List Ev.D}{vs:List V}{i:Nat}{d:Ev.D},aH K H r ds vs->ds[i]?=some d->∃v,vs[i]?=some v/\RV K H r d v
 |[],_,_,_,_,e=>by simp at e
 |_ :: _,_,0,_,h,e=>by
  simp only[aH]at h;obtain⟨v,w,rfl,z,q⟩:=h;simp at e;subst e;exact⟨v,by simp,z⟩
 |_ :: _,_,i+1,_,h,e=>by
  simp only[aH]at h;obtain⟨v,w,rfl,z,q⟩:=h;obtain⟨u,a,b⟩:=aH.get (i:=i) q (by simpa using e);exact⟨u,by simpa using a,b⟩
theorem aH.append:∀{ds es:List Ev.D}{vs ws:List V},aH K H r ds vs->aH K H r es ws->aH K H r (ds++es) (vs++ws)
 |[],_,_,_,a,b=>by simp only[aH]at a;subst a;simpa using b
 |_ :: _,_,_,_,a,b=>by
  simp only[aH]at a;obtain⟨v,w,rfl,z,q⟩:=a;simp only[aaS];exact .cons z (aH.append q b)
theorem aH.take:∀{ds:List Ev.D}{vs:List V}(n:Nat),aH K H r ds vs->aH K H r (ds.take n) (vs.take n)
 |_,_,0,_=>by simp[aH]
 |[],_,_+1,a=>by simp only[aH]at a;subst a;simp[aH]
 |_ :: _,_,n+1,a=>by
  simp only[aH]at a;obtain⟨v,w,rfl,z,q⟩:=a;simp only[aaG];exact .cons z (aH.take n q)
theorem aH.drop:∀{ds:List Ev.D}{vs:List V}(n:Nat),aH K H r ds vs->aH K H r (ds.drop n) (vs.drop n)
 |_,_,0,a=>by simpa using a
 |[],_,_+1,a=>by simp only[aH]at a;subst a;simp[aH]
 |_ :: _,_,n+1,a=>by
  simp only[aH]at a;obtain⟨v,w,rfl,z,q⟩:=a;simp only[abp];exact aH.drop n q
theorem aH.reverse:∀{ds:List Ev.D}{vs:List V},aH K H r ds vs->aH K H r ds.reverse vs.reverse
 |[],_,a=>by simp only[aH]at a;subst a;simp[aH]
 |_ :: _,_,a=>by
  simp only[aH]at a;obtain⟨v,w,rfl,z,q⟩:=a;simp only[aaw];exact(aH.reverse q).append (.cons z .nil)
theorem aH.rep{ds:List Ev.D}{vs:List V}(a:aH K H r ds vs):∀k:Nat,aH K H r (Ev.rep k ds) (Ev.rep k vs)
 |0=>by simp[Ev.rep,aH]
 |k+1=>by
  have h:=aH.rep a k;simp only[Ev.rep,aak,abg]at h ⊢;exact a.append h
def Fm.laid{p:Addr}{o:HO}(hp:H p=none):Fm K r (r++[p]) H (upd H p o) where
 pre:=λn a e=>by rw[yy (List.getElem?_eq_some_iff.mp e).1];exact e
 new:=λa e=>by
  rcases List.mem_append.mp e with q|q
  .exact .inl q
  .rw[aaT]at q;subst q;exact .inr hp
 keep:=λa b e _=>by rw[aJ (bh e hp)];exact e
 tups:=λa c e=>by
  rcases e with (e|⟨b,e⟩)|e
  .exact .inl (.inl (by rw[aJ (bh e hp)];exact e))
  .exact .inl (.inr ⟨b,by rw[aJ (bh e hp)];exact e⟩)
  .exact .inr e
 fin:=λa o u e=>by rw[aJ (bh e hp)];exact e
def Fm.tup{p:Addr}{o:HO}(hp:H p=none):Fm K r r H (upd H p o) where
 pre:=λn a e=>e
 new:=λa e=>.inl e
 keep:=λa b e _=>by rw[aJ (bh e hp)];exact e
 tups:=(Fm.laid (r:=r) hp).tups
 fin:=(Fm.laid (K:=K) (r:=r) hp).fin
noncomputable def wo:Ev.O->Bool
 |.obj _ _=>true
 |.jS _ _=>true
 |_=>false
def OX.go{h1:Ev.Hh}(q:OX K H r h)(f:∀(n:Nat) a,r[n]?=some a->r1[n]?=some a)(g:∀a vs,dQ K H a vs->dQ K H1 a vs)(e1:∀(n:Nat) o,wo o=true->h1[n]?=some o->h[n]?=some o)(e2:∀m n k:Nat,h[m]?=some (.jS n k)->h1[m]?=some (.jS n k))
  (kp:∀(n:Nat) o a x,wo o=true->h[n]?=some o->r[n]?=some a->H a=some x->H1 a=some x)
  (lj:∀(m:Nat) o a,Ic o=true->h1[m]?=some o->r1[m]?=some a->(∃o0,Ic o0=true/\h[m]?=some o0/\r[m]?=some a)\/∀m' n k:Nat,h[m']?=some (.jS n k)->r[m']?≠some a):OX K H1 r1 h1 where
 ob:=λn c ds e=>by
  have b:=e1 n _ rfl e;obtain⟨a,z⟩:=q.ob n c ds b;obtain⟨ps,d,j⟩:=z.dc;exact⟨a,f _ _ z.at_,ps,d,j.imp (λw=>⟨w.1,kp n _ a _ rfl b z.at_ w.2⟩) λw=>⟨w.1,let ⟨o,B⟩:=w.2;⟨o,kp n _ a _ rfl b z.at_ B⟩⟩⟩
 pv:=λm n k e=>by
  have b:=e1 m _ rfl e;obtain⟨a,o,i,l,p⟩:=q.pv m n k b;exact⟨a,o,f _ _ i,kp m _ a o rfl b i l,p⟩
 jp:=λm m' a n k o i l p C M=>by
  have b:=e1 m _ rfl p;obtain⟨Q,x,d,j,_⟩:=q.pv m n k b;have y:=f _ _ d;rw[i]at y;cases y;rcases lj m' o a M C l with ⟨o0,N,B,P⟩|w
  .exact q.jp m m' a n k o0 d P b B N
  .exact absurd d (w m n k b)
 jo:=λn F a c ds G A i l p C=>by
  have I:=e1 n _ rfl p;have J:=e1 F _ rfl C;obtain⟨W,d⟩:=q.ob n c ds I;obtain⟨X,j⟩:=q.ob F G A J;have y:=f _ _ d.at_;have L:=f _ _ j.at_;rw[i]at y;rw[l]at L;cases y;cases L;exact q.jo n F a c ds G A d.at_ j.at_ I J
def OX.more(q:OX K H r h)(f:Fm K r r H H1)(k:∀b o,H b=some o->H1 b=some o):OX K H1 r h:=
 q.go f.pre f.tups (λ_ _ _ e=>e) (λ_ _ _ e=>e) (λ_ _ a x _ _ _ e=>k a x e) λm o a c d g=>.inl ⟨o,c,d,g⟩
def OX.push{p:Addr}{o:Ev.O}(q:OX K H r h)(hl:r.length=h.length)(ho:wo o=false)(hp:∀m n k:Nat,h[m]?=some (.jS n k)->r[m]?≠some p)(f:∀a vs,dQ K H a vs->dQ K H1 a vs)(k:∀b x,H b=some x->H1 b=some x):OX K H1 (r++[p]) (h++[o]):=by
 have d:∀(n:Nat) x,(h++[o])[n]?=some x->h[n]?=some x\/(n=h.length/\x=o):=λn x e=>by
  by_cases g:n<h.length
  .rw[yy g]at e;exact .inl e
  .have i:=(List.getElem?_eq_some_iff.mp e).1;simp only[aam,aaH]at i;have j:n=h.length:=by omega
   subst j;simp at e;exact .inr ⟨rfl,e.symm⟩
 refine q.go (λn a e=>by rw[yy (List.getElem?_eq_some_iff.mp e).1];exact e) f (λn x z e=>?_) (λm n k e=>by rw[yy (List.getElem?_eq_some_iff.mp e).1];exact e) (λ_ _ a x _ _ _ e=>k a x e) λm x a l y c=>?_
 .rcases d n x e with e|⟨_,e⟩
  .exact e
  .subst e;rw[ho]at z;cases z
 .rcases d m x y with e|⟨e,_⟩
  .rw[yy (by rw[hl];exact(List.getElem?_eq_some_iff.mp e).1)]at c;exact .inl ⟨x,l,e,c⟩
  .subst e;rw[<-hl]at c;simp at c;subst c;exact .inr hp
def OX.fresh{p:Addr}(q:OX K H r h)(hp:H p=none):∀m n k:Nat,h[m]?=some (.jS n k)->r[m]?≠some p:=λm n k e z=>by
 obtain⟨a,o,b,c,_⟩:=q.pv m n k e;rw[z]at b;cases b;rw[hp]at c;cases c
def qL{p:Addr}{o:HO}(hp:H p=none):∀b x,H b=some x->upd H p o b=some x:=λb x e=>by rw[aJ (bh e hp)];exact e
def OX.wr{n:Nat}{a:Addr}{o o2:Ev.O}{y:HO}(q:OX K H r h)(hn:h[n]?=some o)(ho:Ic o=true)(h1:wo o=false)(h2:wo o2=false)(mz:r[n]?=some a)(hi:∀fs:List (Key×V),¬ Rd H a (.dK fs))(f:Fm K r r H (upd H a y)):OX K (upd H a y) r (h.set n o2):=by
 have p:=(List.getElem?_eq_some_iff.mp hn).1;refine q.go f.pre f.tups (λm x z e=>?_) (λm i k e=>?_) (λm x b y z e g A=>?_) λm x b B j l=>?_
 .by_cases d:n=m
  .subst d;rw[aad p]at e;cases e;rw[h2]at z;cases z
  .rw[Uk d]at e;exact e
 .by_cases d:n=m
  .subst d;rw[hn]at e;cases e;cases h1
  .rw[Uk d];exact e
 .have:b≠a:=λC=>by
   subst C;cases x with
   |obj c ds=>
    obtain⟨_,w⟩:=q.ob m c ds e;have:=w.at_;rw[g]at this;cases this;obtain⟨ps,_,F⟩:=w.dc;exact hi (b9 ps) (F.imp (λz=>z.2) λz=>z.2)
   |jS i k=>
    have:=q.jp m n b i k o g mz e hn ho;subst this;rw[hn]at e;cases e;cases h1
   |_=>cases z
  rw[aJ this];exact A
 .by_cases d:n=m
  .subst d;exact .inl ⟨o,ho,hn,l⟩
  .rw[Uk d]at j;exact .inl ⟨x,B,j,l⟩
theorem RO.mono{o:Ev.O}{a:Addr}(f:Fm K r r1 H H1)(q:RO K H r o a)(hl:∀ds vs,o=.lst ds->H a=some (.lst vs)->H1 a=some (.lst vs))(hf:∀ob vs,H a=some (.bK ob vs)->H1 a=some (.bK ob vs))
  (hs:∀kvs,o=.fj kvs->H a=some (.dK (jP kvs))->kvs≠[]->H1 a=some (.dK (jP kvs)))
  : RO K H1 r1 o a:=by
 cases o with
 |lst ds=>
  obtain⟨vs,e,z⟩:=q;exact⟨vs,hl ds vs rfl e,z.mono f⟩
 |bK ds=>
  obtain⟨vs,e,z⟩:=q;refine⟨vs,?_,z.mono f⟩;rcases e with ⟨ob,e⟩|e
  .exact .inl ⟨ob,hf _ _ e⟩
  .exact .inr e
 |fj kvs=>exact⟨hs kvs rfl q.1 q.2.1,q.2⟩
 |obj _ _=>trivial
 |jS _ _=>trivial
theorem HR.tup{p:Addr}{o:HO}(hr:HR K H r h)(hp:H p=none):HR K (upd H p o) r h where
 len:=hr.len
 ob:=λn ob e=>by
  obtain⟨a,b,q⟩:=hr.ob n ob e;exact⟨a,b,q.mono (Fm.tup hp) (λ_ c _ z=>by rw[aJ (bh z hp)];exact z) (λ_ _ z=>by rw[aJ (bh z hp)];exact z)
   (λ_ _ z _=>by rw[aJ (bh z hp)];exact z)
   ⟩
 inj:=hr.inj
 ox:=hr.ox.more (.tup hp) (qL hp)
theorem HR.lst{p:Addr}{ds:List Ev.D}{vs:List V}(hr:HR K H r h)(hp:H p=none)(q:aH K H r ds vs):HR K (upd H p (.lst vs)) (r++[p]) (h++[.lst ds]) where
 len:=by simp[hr.len]
 ob:=λn ob e=>by
  by_cases M:n<h.length
  .rw[yy M]at e;obtain⟨a,l,z⟩:=hr.ob n ob e;exact⟨a,(Fm.laid (K:=K) (o:=.lst vs) hp).pre n a l,z.mono (Fm.laid hp) (λ_ vs _ z=>by rw[aJ (bh z hp)];exact z) (λ_ _ z=>by rw[aJ (bh z hp)];exact z)
   (λ_ _ z _=>by rw[aJ (bh z hp)];exact z)
    ⟩
  .have f:=(List.getElem?_eq_some_iff.mp e).1;simp only[aam,aaH]at f;have A:n=h.length:=by omega
   subst A;simp at e;subst e;exact⟨p,by rw[<-hr.len];simp,vs,dZ,q.mono (Fm.laid hp)⟩
 inj:=λn m a x y l f A G=>by
  have out:∀(k:Nat) z,(h++[Ev.O.lst ds])[k]?=some (.lst z)->(r++[p])[k]?=some a->(k<h.length/\r[k]?=some a/\h[k]?=some (.lst z)/\a≠p)\/(k=h.length/\a=p):=λk z g c=>by
   by_cases B:k<h.length
   .rw[yy B]at g;rw[yy (by rw[hr.len];exact B)]at c;obtain⟨b,i,N,C,_⟩:=hr.ob k _ g;rw[c]at i;cases i;exact .inl ⟨B,c,g,bh C hp⟩
   .have i:=(List.getElem?_eq_some_iff.mp g).1;simp only[aam,aaH]at i;have C:k=r.length:=by rw[hr.len];omega
    subst C;simp at c;exact .inr ⟨hr.len,c.symm⟩
  rcases out n x A l with ⟨I,F,P,Q⟩|⟨I,F⟩
  .rcases out m y G f with ⟨j,d,J,L⟩|⟨j,d⟩
   .exact hr.inj n m a x y F d P J
   .exact absurd d Q
  .rcases out m y G f with ⟨j,d,J,L⟩|⟨j,d⟩
   .exact absurd F L
   .rw[I,j]
 ox:=hr.ox.push hr.len rfl (hr.ox.fresh hp) (Fm.laid (K:=K) (r:=r) hp).tups (qL hp)
theorem HR.fj{n:Nat}{kvs:List (List Nat×List Nat)}(hr:HR K H r h)(e:h[n]?=some (.fj kvs)):∃a,r[n]?=some a/\H a=some (.dK (jP kvs))/\kvs≠[]/\∀p∈kvs,p.2.length<=sizeLine:=by
 obtain⟨a,b,c,d⟩:=hr.ob n _ e;exact⟨a,b,c,d⟩
def HR.read{n:Nat}{ds:List Ev.D}(hr:HR K H r h)(e:Ev.bO h n=some ds):∃a vs,r[n]?=some a/\fQ K H a vs/\aH K H r ds vs:=by
 unfold Ev.bO at e;split at e
 .rename_i z;cases e;obtain⟨a,c,vs,b,d⟩:=hr.ob n _ z;exact⟨a,vs,c,.inl (.inl b),d⟩
 .rename_i z;cases e;obtain⟨a,c,vs,b,d⟩:=hr.ob n _ z;refine⟨a,vs,c,?_,d⟩;rcases b with ⟨f,b⟩|b
  .exact .inl (.inr ⟨f,b⟩)
  .exact .inr b
 .cases e
def Fm.write{a:Addr}{vs ws:List V}(ha:H a=some (.lst vs))(hm:a∈r):Fm K r r H (upd H a (.lst ws)) where
 pre:=λn b e=>e
 new:=λb e=>.inl e
 keep:=λb c e n=>by rw[aJ (λz=>n (by rw[z];exact hm))];exact e
 tups:=λb d e=>by
  rcases e with (e|⟨c,e⟩)|e
  .exact .inl (.inl (by rw[aJ (gh e ha (by intro z;cases z))];exact e))
  .exact .inl (.inr ⟨c,by rw[aJ (gh e ha (by intro z;cases z))];exact e⟩)
  .exact .inr e
 fin:=λb o u e=>by rw[aJ (gh e ha (by intro z;cases z))];exact e
theorem HR.write{n:Nat}{a:Addr}{ds es:List Ev.D}{vs ws:List V}(hr:HR K H r h)(hn:h[n]?=some (.lst ds))(mz:r[n]?=some a)(ha:H a=some (.lst vs))(q:aH K H r es ws) :
  HR K (upd H a (.lst ws)) r (h.set n (.lst es)) where
 len:=by simp[hr.len]
 ob:=λm ob e=>by
  have f:=Fm.write (K:=K) (ws:=ws) ha (aag mz);by_cases g:m=n
  .subst g;rw[aad (List.getElem?_eq_some_iff.mp hn).1]at e;cases e;exact⟨a,mz,ws,dZ,q.mono f⟩
  .rw[Uk (λz=>g z.symm)]at e;obtain⟨b,d,z⟩:=hr.ob m ob e;refine⟨b,d,z.mono f (λXA o p c=>?_) (λXC o c=>by rw[aJ (gh c ha (by intro z;cases z))];exact c)
    (λ_ _ c _=>by rw[aJ (gh c ha (by intro z;cases z))];exact c)
    ⟩
   by_cases i:b=a
   .subst i;subst p;exact absurd (hr.inj m n b XA ds d mz e hn) g
   .rw[aJ i];exact c
 inj:=λk m b x y d A B C=>by
  have back:∀(j:Nat) z,(h.set n (Ev.O.lst es))[j]?=some (.lst z)->∃z',h[j]?=some (.lst z'):=λj z w=>by
   by_cases l:j=n
   .subst l;exact⟨ds,hn⟩
   .rw[Uk (λz=>l z.symm)]at w;exact⟨z,w⟩
  obtain⟨F,G⟩:=back k x B;obtain⟨I,J⟩:=back m y C;exact hr.inj k m b F I d A G J
 ox:=hr.ox.wr hn rfl rfl rfl mz (λfs z=>by rcases z with z|⟨_,z⟩<;>rw[ha]at z<;>cases z) (.write ha (aag mz))
def gK{p:Addr}{vs ws:List V}(hp:H p=some (.lst vs)):∀a us,dQ K H a us->dQ K (upd H p (.lst ws)) a us:=λb us e=>by
 rcases e with (e|⟨ob,e⟩)|e
 .exact .inl (.inl (by rw[aJ (gh e hp (by intro z;cases z))];exact e))
 .exact .inl (.inr ⟨ob,by rw[aJ (gh e hp (by intro z;cases z))];exact e⟩)
 .exact .inr e
def HR.other{p:Addr}{vs ws:List V}(hr:HR K H r h)(hp:H p=some (.lst vs))(hn:p∉r):HR K (upd H p (.lst ws)) r h where
 len:=hr.len
 ob:=λn ob e=>by
  obtain⟨a,g,q⟩:=hr.ob n ob e;have c:a≠p:=λz=>hn (by rw[<-z];exact aag g);refine⟨a,g,?_⟩;cases ob with
  |lst ds=>
   obtain⟨d,b,f⟩:=q;exact⟨d,by rw[aJ c];exact b,f.grow (λ_ _ z=>z) (gK hp)⟩
  |bK ds=>
   obtain⟨d,b,f⟩:=q;refine⟨d,?_,f.grow (λ_ _ z=>z) (gK hp)⟩;rcases b with ⟨o,b⟩|b
   .exact .inl ⟨o,by rw[aJ c];exact b⟩
   .exact .inr b
  |fj kvs=>exact⟨by rw[aJ c];exact q.1,q.2⟩
  |obj _ _=>trivial
  |jS _ _=>trivial
 inj:=hr.inj
 ox:=hr.ox.go (λ_ _ e=>e) (gK hp) (λ_ _ _ e=>e) (λ_ _ _ e=>e) (λn o a x _ _ z e=>by rw[aJ (λ(y:a=p)=>hn (by rw[<-y];exact aag z))];exact e) λm o a i j l=>.inl ⟨o,i,j,l⟩
def Fm.other{p:Addr}{vs ws:List V}(f:Fm K r r1 H H1)(h0:H p=none)(hp:H1 p=some (.lst vs)):Fm K r r1 H (upd H1 p (.lst ws)) where
 pre:=f.pre
 new:=f.new
 keep:=λa o e n=>by rw[aJ (bh e h0)];exact f.keep a o e n
 tups:=λa b e=>gK hp a b (f.tups a b e)
 fin:=λa o u e=>by
  have c:=f.fin a o u e;rw[aJ (gh c hp (by intro z;cases z))];exact c
def Fm.m8{p:Addr}{o:HO}(f:Fm K r r1 H H1)(hp:H p=some o)(hn:p∉r):p∉r1/\H1 p=some o:=by
 refine⟨λz=>?_,f.keep p o hp hn⟩;rcases f.new p z with q|q
 .exact hn q
 .rw[hp]at q;cases q
def HR.known{p:Addr}{ds:List Ev.D}{vs:List V}(hr:HR K H r h)(hp:H p=some (.lst vs))(hn:p∉r)(q:aH K H r ds vs):HR K H (r++[p]) (h++[.lst ds]):=by
 have pre:∀(n:Nat) a,r[n]?=some a->(r++[p])[n]?=some a:=λn a e=>by rw[yy (List.getElem?_eq_some_iff.mp e).1];exact e
 refine⟨by simp[hr.len],λn B e=>?_,λn m a x y j b c C=>?_
  ,hr.ox.push hr.len rfl (λm _ _ _ z=>hn (aag z)) (λ_ _ e=>e) (λ_ _ e=>e)
  ⟩
 .by_cases d:n<h.length
  .rw[yy d]at e;obtain⟨a,j,z⟩:=hr.ob n B e;refine⟨a,pre n a j,?_⟩;cases B with
   |lst ds=>obtain⟨l,b,c⟩:=z;exact⟨l,b,c.grow pre λ_ _ z=>z⟩
   |bK ds=>obtain⟨l,b,c⟩:=z;exact⟨l,b,c.grow pre λ_ _ z=>z⟩
   |fj kvs=>exact z
   |obj _ _=>trivial
   |jS _ _=>trivial
  .have b:=(List.getElem?_eq_some_iff.mp e).1;simp only[aam,aaH]at b;have c:n=h.length:=by omega
   subst c;simp at e;subst e;exact⟨p,by rw[<-hr.len];simp,vs,hp,q.grow pre λ_ _ z=>z⟩
 .have out:∀(k:Nat) z,(h++[Ev.O.lst ds])[k]?=some (.lst z)->(r++[p])[k]?=some a->(k<h.length/\r[k]?=some a/\h[k]?=some (.lst z)/\a≠p)\/(k=h.length/\a=p):=λk z o f=>by
   by_cases d:k<h.length
   .rw[yy d]at o;rw[yy (by rw[hr.len];exact d)]at f;exact .inl ⟨d,f,o,λz=>hn (by rw[<-z];exact aag f)⟩
   .have J:=(List.getElem?_eq_some_iff.mp o).1;simp only[aam,aaH]at J;have L:k=r.length:=by rw[hr.len];omega
    subst L;simp at f;exact .inr ⟨hr.len,f.symm⟩
  rcases out n x c j with ⟨F,A,M,N⟩|⟨F,A⟩
  .rcases out m y C b with ⟨i,g,G,I⟩|⟨i,g⟩
   .exact hr.inj n m a x y A g M G
   .exact absurd g N
  .rcases out m y C b with ⟨i,g,G,I⟩|⟨i,g⟩
   .exact absurd A I
   .rw[F,i]
def Fm.known{p:Addr}(f:Fm K r r1 H H1)(h0:H p=none):Fm K r (r1++[p]) H H1 where
 pre:=λn a e=>by
  have b:=f.pre n a e;rw[yy (List.getElem?_eq_some_iff.mp b).1];exact b
 new:=λa e=>by
  rcases List.mem_append.mp e with q|q
  .exact f.new a q
  .rw[aaT]at q;subst q;exact .inr h0
 keep:=f.keep
 tups:=f.tups
 fin:=f.fin
end
end Sm
namespace Sm
open PySem PySem.Spec PyProof.Rows L2
open Ev (D O Hh Fr R aS E Es Eo It T S Ss Fl Src bV bR TY BI ME)
section
variable(K:PySem.W.Frag)
def Res(r:List Addr)(H:Hp)(h':Hh)(d:D)(Q:VK):Prop:=∀v H' r',RV K H' r' d v->HR K H' r' h'->Fm K r r' H H'->Q v H'
structure SR(m:List Nat)(H:Hp)(r:List Addr)(fr:Fr)(s:L2.St):Prop where
 len:s.length=m.length
 sl:∀(j i:Nat) d,m[j]?=some i->fr[i]?=some (some d)->∃v,s[j]?=some (some v)/\RV K H r d v
inductive tJ(m:List Nat)(P:aS)(e:E)(s:L2.St)(H:Hp)(Q:VK):Prop
 |mk (r:List Addr) (fr:Fr) (h:Hh) (d:D) (h':Hh) (c0:SR K m H r fr s) (c1:HR K H r h) (c2:Ev.ev P e fr h=.ok d h') (c3:Res K r H h' d Q):tJ m P e s H Q
inductive M6(m:List Nat)(P:aS)(e:E)(s:L2.St)(H:Hp)(Q:Bool->Hp->Prop):Prop
 |mk (r:List Addr) (fr:Fr) (h:Hh) (k:Bool) (h':Hh) (c0:SR K m H r fr s) (c1:HR K H r h) (c2:Ev.aN P e fr h=.ok k h') (c3:∀H' r',HR K H' r' h'->Fm K r r' H H'->Q k H'):M6 m P e s H Q
inductive M7(m:List Nat)(P:aS)(es:Es)(s:L2.St)(H:Hp)(Q:List V->Hp->Prop):Prop
 |mk (r:List Addr) (fr:Fr) (h:Hh) (ds:List D) (h':Hh) (c0:SR K m H r fr s) (c1:HR K H r h) (c2:Ev.bL P es fr h=.ok ds h') (c3:∀vs H' r',aH K H' r' ds vs->HR K H' r' h'->Fm K r r' H H'->Q vs H'):M7 m P es s H Q
inductive UJ(m:List Nat)(P:aS)(e:Eo)(s:L2.St)(H:Hp)(Q:Option Int->Hp->Prop):Prop
 |mk (r:List Addr) (fr:Fr) (h:Hh) (o:Option Int) (h':Hh) (c0:SR K m H r fr s) (c1:HR K H r h) (c2:Ev.gk P e fr h=.ok o h') (c3:∀H' r',HR K H' r' h'->Fm K r r' H H'->Q o H'):UJ m P e s H Q
inductive iU(f:D->D->Hh->R D)(x:V)(y:V)(H:Hp)(Q:VK):Prop
 |mk (r:List Addr) (h:Hh) (a:D) (b:D) (d:D) (h':Hh) (c0:HR K H r h) (c1:RV K H r a x) (c2:RV K H r b y) (c3:f a b h=.ok d h') (c4:Res K r H h' d Q):iU f x y H Q
inductive wu(f:List D->Hh->R D)(xs:List V)(H:Hp)(Q:VK):Prop
 |mk (r:List Addr) (h:Hh) (as:List D) (d:D) (h':Hh) (c0:HR K H r h) (c1:aH K H r as xs) (c2:f as h=.ok d h') (c3:Res K r H h' d Q):wu f xs H Q
inductive uv(f:D->List D->Hh->R D)(x:V)(xs:List V)(H:Hp)(Q:VK):Prop
 |mk (r:List Addr) (h:Hh) (a:D) (as:List D) (d:D) (h':Hh) (c0:HR K H r h) (c1:RV K H r a x) (c2:aH K H r as xs) (c3:f a as h=.ok d h') (c4:Res K r H h' d Q):uv f x xs H Q
inductive M8  (x:V) (lo:Option Int) (hi:Option Int) (H:Hp) (Q:VK):Prop
 |mk (r:List Addr) (h:Hh) (a:D) (d:D) (h':Hh) (c0:HR K H r h) (c1:RV K H r a x) (c2:Ev.fX a lo hi h=.ok d h') (c3:Res K r H h' d Q):M8 x lo hi H Q
end
section
variable{K:PySem.W.Frag}{m:List Nat}{H H':Hp}{r r':List Addr}{fr:Fr}{s:L2.St}{h h':Hh}{d:D}{Q:VK}
theorem SR.mono(a:SR K m H r fr s)(f:Fm K r r' H H'):SR K m H' r' fr s:=⟨a.len,λj i d b c=>by
 obtain⟨v,q,z⟩:=a.sl j i d b c;exact⟨v,q,z.mono f⟩⟩
def Res.here{v:V}(q:Res K r H h d Q)(a:RV K H r d v)(b:HR K H r h):Q v H:=q v H r a b .refl
def Res.later(q:Res K r H h' d Q)(f:Fm K r r' H H'):Res K r' H' h' d Q:=λv H2 c a b g=>q v H2 c a b (f.trans g)
theorem Res.lst{ds:List D}{vs:List V}(q:Res K r H h' d Q)(e:Ev.alloc ds h=.ok d h')(a:aH K H r ds vs)(b:HR K H r h):vs.length<=sizeLine/\∀p,H p=none->Q (.ref p) (upd H p (.lst vs)):=by
 unfold Ev.alloc at e;split at e
 .rename_i z;cases e;refine⟨by rw[a.length,<-kB];exact z,λp c=>?_⟩;exact q _ _ (r++[p]) ⟨p,rfl,by rw[<-b.len];simp⟩ (b.lst c a) (.laid c)
 .cases e
theorem Res.tup{ds:List D}{vs:List V}(q:Res K r H h (.tup ds) Q)(a:aH K H r ds vs)(b:HR K H r h){p:Addr}(hp:H p=none):Q (.ref p) (upd H p (.tup vs)):=
 q _ _ r ⟨p,vs,rfl,.of dZ,a.mono (.tup hp)⟩ (b.tup hp) (.tup hp)
end
def PE.of{X:Cx}{e:Expr}{t t':TE}(h:PE X e t)(w:∀s H Q,t' s H Q->t s H Q):PE X e t':=λpins s σ H Q I q=>h pins s σ H Q I (w _ _ _ q)
def PT.of{X:Cx}{e:Expr}{t t':TT}(h:PT X e t)(w:∀s H Q,t' s H Q->t s H Q):PT X e t':=λpins s σ H Q I q=>h pins s σ H Q I (w _ _ _ q)
def PW.of{X:Cx}{e:Expr}{t t':TT}(h:PW X e t)(w:∀s H Q,t' s H Q->t s H Q):PW X e t':=λwh pins s σ H Q I q=>h wh pins s σ H Q I (w _ _ _ q)
def PA.of{X:Cx}{es:List Expr}{t t':TA}(h:PA X es t)(w:∀s H Q,t' s H Q->t s H Q):PA X es t':=λpos pins s σ H Q I q=>h pos pins s σ H Q I (w _ _ _ q)
def PO.of{X:Cx}{e:Option Expr}{t t':TO}(h:PO X e t)(w:∀s H Q,t' s H Q->t s H Q):PO X e t':=λpins s σ H Q I q=>h pins s σ H Q I (w _ _ _ q)
structure FI where
 name:Str
 addr:Addr
 fd:FuncData
 ps:List Str
noncomputable def qu(K:PySem.W.Frag)(F:List Ev.Fn)(w n f:Nat):Sp:=λa H Q _=>∃r h ds d h',aH K H r ds a/\HR K H r h/\Ev.run F w n f ds h=.ok d h'/\Res K r H h' d Q
def zJ(K:PySem.W.Frag)(d:D)(v:V):Prop:=∀H r,RV K H r d v
def zJ.rv{K:PySem.W.Frag}{H:Hp}{r:List Addr}{d:D}{v:V}(h:zJ K d v):RV K H r d v:=h H r
structure Tb where
 F:List Ev.Fn
 w:Nat
 fi:List FI
 bl:List Str
 cs:List (Str×D)
 dk:List (Str×List (D×D))
noncomputable def tabOf:List (D×D)->List (PyData×PyData)
 | (.str k,.str v) :: r=>(.str (aO k),.str (aO v)) :: tabOf r
 |_=>[]
structure Good(G:Tb)(n:Nat)(sc:Scope)(N:List Str)(df:Bool)(X:Cx):Prop where
 nm:X.N=N
 sc:X.env.scope=sc
 calm:X.calm=true
 own:df=true->∀x,X.fn x=true
 room:gb n X.A
 xe:X.xe=λ_ _=>False
 fn:∀(f:Nat) i,G.fi[f]?=some i->X.mg i.name=some (.ref i.addr)/\PySem.W.keepIn X.K (.ref i.addr)=true/\Binds X.K i.fd i.ps []/\jk X.prog X.w X.K X.mg X.base oH n i.addr i.fd i.ps (qu X.K G.F G.w n f)
 bl:∀x∈G.bl,X.mg x=none
 cs:∀x d,(x,d)∈G.cs->∃v u,X.mg x=some u/\RelV v u/\zJ X.K d v
 dk:∀x kvs,(x,kvs)∈G.dk->∃a,X.mg x=some (.ref a)/\∀h:Heap,X.K.In h->StrTab X.prog X.w h a (tabOf kvs)
section
variable(G:Tb)(n:Nat)(sc:Scope)(N:List Str)(df:Bool)(m:List Nat)
def JE(e:E)(x:Expr):Prop:=∀X,Good G n sc N df X->PE X x (tJ X.K m (Ev.run G.F G.w n) e)
def JT(e:E)(x:Expr):Prop:=∀X,Good G n sc N df X->PT X x (M6 X.K m (Ev.run G.F G.w n) e)
def JW(e:E)(x:Expr):Prop:=∀X,Good G n sc N df X->PW X x (M6 X.K m (Ev.run G.F G.w n) e)
def JA(es:Es)(xs:List Expr):Prop:=∀X,Good G n sc N df X->PA X xs (M7 X.K m (Ev.run G.F G.w n) es)
def JO(e:Eo)(x:Option Expr):Prop:=∀X,Good G n sc N df X->PO X x (UJ X.K m (Ev.run G.F G.w n) e)
end
section
variable{G:Tb}{n:Nat}{sc:Scope}{N:List Str}{df:Bool}{m:List Nat}{a b c:E}{xa xb:Expr}{pos:Pos}
def Good.vis{X:Cx}(g:Good G n sc N df X){x:Str}(h:sc.names.lookup x=some .local\/sc.names.lookup x=some .cell\/sc.names.lookup x=some .free):Cu X.env.scope x:=by
 rw[g.sc];exact h
def Good.gl{X:Cx}(g:Good G n sc N df X){x:Str}(h:sc.names.lookup x=some .globalImplicit):Gl X x:=by
 unfold Gl Env.kindOf;rw[g.sc];exact h
def WA(j i:Nat){x:Str}(hj:autoParam (m[j]?=some i) zb._auto_1)(hN:autoParam (N[j]?=some x) zb._auto_1)
  (hv:autoParam (sc.names.lookup x=some .local\/sc.names.lookup x=some .cell\/sc.names.lookup x=some .free) L2.pv._auto_1)
  (hd:autoParam ((x==("__debug__" : Str))=false) zP._auto_1) (hcd:autoParam ((x==("__classdict__" : Str))=false) zP._auto_1):JE G n sc N df m (.v i) (.Name x pos):=by
 intro X g;refine PE.of (Cw (i:=j) (by rw[g.nm];exact hN) (g.vis hv) hd hcd) λs H Q q=>?_;obtain⟨r,l,h,d,I,p,y,e,q⟩:=q;simp only[Ev.ev]at e;obtain⟨f,A⟩:=Ev.aF e;subst A;obtain⟨v,B,C⟩:=p.sl j i d hj (by
  cases z:l[i]? with
  |none=>rw[z]at f;cases f
  |some o=>
   rw[z]at f;have F:o=some d:=f;rw[F])
 exact⟨v,B,q.here C y⟩
def vm{K:PySem.W.Frag}{P:aS}{d:D}{v:V}(hc:zJ K d v):∀s H Q,tJ K m P (.c d) s H Q->tC v s H Q:=λs H Q q=>by
 obtain⟨r,g,h,i,j,l,f,e,q⟩:=q;simp only[Ev.ev]at e;cases e;exact q.here hc.rv f
def CU{i:Int}{j}:JE G n sc N df m (.c (.int i)) (.Constant (.int i) j pos):=λX g=>PE.of Ml (vm λ_ _=>rfl)
def S6{k:Bool}{j}:JE G n sc N df m (.c (.bl k)) (.Constant (.bool k) j pos):=λX g=>PE.of Sk (vm λ_ _=>rfl)
def M9{j}:JE G n sc N df m (.c .aD) (.Constant .none j pos):=λX g=>PE.of Mm (vm λ_ _=>rfl)
def Na{l:List Nat}{x:Str}{j}(hx:autoParam (x=aO l) zi._auto_1)(hl:autoParam (l.length<=sizeLine) zP._auto_1):JE G n sc N df m (.c (.str l)) (.Constant (.str x) j pos):=
 λX g=>PE.of vR (vm λ_ _=>by subst hx;exact⟨rfl,hl⟩)
def Nb:JA G n sc N df m .nil []:=λX g=>PA.of mj λs H Q q=>by
 obtain⟨r,f,h,ds,i,j,d,e,q⟩:=q;simp only[Ev.bL]at e;cases e;exact q [] H r .nil d .refl
def Km{es:Es}{xs:List Expr}(ha:JE G n sc N df m a xa)(hs:JA G n sc N df m es xs)(hst:autoParam (∀env:Env,starEach (xa :: xs) env=(false,eval xa env) :: starEach xs env) zf._auto_1):JA G n sc N df m (.cons a es) (xa :: xs):=
 λX g=>PA.of (j7 (ha X g) (hs X g) (hst _)) λs H Q q=>by
  obtain⟨r,l,h,ds,I,o,x,e,q⟩:=q;simp only[Ev.bL]at e;obtain⟨d,p,y,e⟩:=Ev.ai e;obtain⟨f,J,z,e⟩:=Ev.ai e;cases e;refine⟨r,l,h,d,p,o,x,y,λv H1 A B i f1=>?_⟩;refine⟨A,l,p,f,_,o.mono f1,i,z,λK H2 C F j f2=>?_⟩;exact q _ H2 C (.cons (B.mono f2) F) j (f1.trans f2)
def Nc{es:Es}{xs:List Expr}{k}(hs:JA G n sc N df m es xs):JE G n sc N df m (.tup es) (.Tuple xs k pos):=λX g=>PE.of (MI (hs X g)) λs H Q q=>by
 obtain⟨r,j,h,d,A,l,o,e,q⟩:=q;simp only[Ev.ev]at e;obtain⟨ds,B,x,e⟩:=Ev.ai e;split at e
 .rename_i z;cases e;refine⟨r,j,h,ds,_,l,o,x,λC H1 F i f f1=>⟨by rw[i.length,<-kB];exact z,λp y=>?_⟩⟩;exact(q.later f1).tup i f y
 .cases e
def Nd{es:Es}{xs:List Expr}(hs:JA G n sc N df m es xs):JE G n sc N df m (.lst es) (.List xs pos):=λX g=>PE.of (MJ (hs X g)) λs H Q q=>by
 obtain⟨r,i,h,d,y,j,l,e,q⟩:=q;simp only[Ev.ev]at e;obtain⟨ds,o,p,e⟩:=Ev.ai e;refine⟨r,i,h,ds,o,j,l,p,λz H1 A x f f1=>?_⟩;exact(q.later f1).lst e x f
def rQ{K:PySem.W.Frag}{P:aS}{f:D->D->Hh->R D}{e':E}(he:∀fr h,Ev.ev P e' fr h=(Ev.ev P a fr h).bind λx h1=>(Ev.ev P b fr h1).bind λy h2=>f x y h2) :
  ∀s H Q,tJ K m P e' s H Q->CB (iU K f) (tJ K m P a) (tJ K m P b) s H Q:=λs H Q q=>by
 obtain⟨r,fr,h,d,l,j,o,e,q⟩:=q;rw[he]at e;obtain⟨x,h1,p,e⟩:=Ev.ai e;obtain⟨y,h2,z,e⟩:=Ev.ai e;refine⟨r,fr,h,x,h1,j,o,p,λv H1 A B g f1=>?_⟩;refine⟨A,fr,h1,y,h2,j.mono f1,g,z,λu H2 C F i f2=>?_⟩;exact⟨C,h2,x,y,d,l,i,B.mono f2,F,e,q.later (f1.trans f2)⟩
def oN{o:bV}{op:Operator}(ho:∀X,Good G n sc N df X->eg X (binaryOp op) (iU X.K (Ev.bW o)))(ha:JE G n sc N df m a xa)(hb:JE G n sc N df m b xb):JE G n sc N df m (.bin o a b) (.BinOp xa op xb pos):=
 λX g=>PE.of (Sy (ho X g) (ha X g) (hb X g)) (rQ λd h=>by simp only[Ev.ev])
noncomputable def iD(o:bR):D->D->Hh->R D:=λx y h=>R.of ((Ev.cop o x y h).map .bl) h
def CV{o:bR}{op:CmpOp}(ho:∀X,Good G n sc N df X->eg X (compareOp op) (iU X.K (iD o)))(ha:JE G n sc N df m a xa)(hb:JE G n sc N df m b xb)(hm:behindInMarks op xb=false):JE G n sc N df m (.cmp o a b) (.Compare xa [op] [xb] pos):=
 λX g=>PE.of (J1 (ho X g) (ha X g) (hb X g) hm) (rQ λd h=>by simp only[Ev.ev,iD])
def j8{o:bR}{x y d:D}{h h':Hh}(e:iD o x y h=.ok d h'):∃k,Ev.cop o x y h=some k/\d=.bl k/\h'=h:=by
 unfold iD at e;obtain⟨f,rfl⟩:=Ev.aF e;cases z:Ev.cop o x y h' with
 |none=>rw[z]at f;cases f
 |some k=>rw[z]at f;cases f;exact⟨k,rfl,rfl,rfl⟩
def mC{o:bR}{op:CmpOp}(ho:∀X,Good G n sc N df X->eg X (compareOp op) (iU X.K (iD o)))(ha:JE G n sc N df m a xa)(hb:JE G n sc N df m b xb)(hm:behindInMarks op xb=false):JT G n sc N df m (.cmp o a b) (.Compare xa [op] [xb] pos):=
 λX g=>PT.of (J2 (ho X g) (ha X g) (hb X g) hm) λs H Q q=>by
  obtain⟨r,l,h,k,J,z,A,e,q⟩:=q;simp only[Ev.aN]at e;obtain⟨d,L,p,e⟩:=Ev.ai e;have i:=p;simp only[Ev.ev]at i;obtain⟨x,M,_,i⟩:=Ev.ai i;obtain⟨y,B,_,i⟩:=Ev.ai i;obtain⟨P,W,C,Y⟩:=j8 (o:=o) (show iD o x y B=_ from i);subst C;simp only[Ev.truthy]at e;cases e;refine rQ (e':=.cmp o a b) (f:=iD o) (λl h=>by simp only[Ev.ev,iD]) s H _ ⟨r,l,h,.bl k,_,z,A,p,λv H1 F I j f1=>?_⟩;exact⟨k,I,q H1 F j f1⟩
end
section
variable{G:Tb}{n:Nat}{sc:Scope}{N:List Str}{df:Bool}{m:List Nat}{a b c:E}{xa xb xc:Expr}{pos:Pos}
def Nf(ha:JE G n sc N df m a xa):JE G n sc N df m (.neg a) (.UnaryOp .USub xa pos):=λX g=>PE.of (Sz MF (ha X g)) λs H Q q=>by
 obtain⟨r,i,h,d,y,j,l,e,q⟩:=q;simp only[Ev.ev]at e;obtain⟨x,z,o,e⟩:=Ev.ai e;split at e
 .cases e;exact⟨r,i,h,_,_,j,l,o,λv H1 A p f f1=>⟨_,p,(q.later f1).here rfl f⟩⟩
 .cases e
def Ng(ha:JT G n sc N df m a xa)(hb:JE G n sc N df m b xb)(hc:JE G n sc N df m c xc):JE G n sc N df m (.fW a b c) (.IfExp xa xb xc pos):=λX g=>PE.of (Fe (ha X g) (hb X g) (hc X g)) λs H Q q=>by
 obtain⟨r,i,h,d,o,j,x,e,q⟩:=q;simp only[Ev.ev]at e;obtain⟨k,l,y,e⟩:=Ev.ai e;refine⟨r,i,h,k,l,j,x,y,λH1 p f f1=>?_⟩;cases k with
 |true=>exact⟨p,i,l,d,o,j.mono f1,f,e,q.later f1⟩
 |false=>exact⟨p,i,l,d,o,j.mono f1,f,e,q.later f1⟩
def Nh(h:JW G n sc N df m a xa):JT G n sc N df m a xa:=λX g=>(h X g).pt
def Ni(ha:JT G n sc N df m a xa):JW G n sc N df m a (.BoolOp .And [xa] pos):=λX g=>JU (ha X g)
def Kn(ha:JT G n sc N df m a xa):JW G n sc N df m a (.BoolOp .Or [xa] pos):=λX g=>Mn (ha X g)
def Ie{rest:List Expr}(ha:JT G n sc N df m a xa)(hb:JW G n sc N df m b (.BoolOp .And (xb :: rest) pos)):JW G n sc N df m (.an a b) (.BoolOp .And (xa :: xb :: rest) pos):=λX g=>PW.of (Mp (ha X g) (hb X g)) λs H Q q=>by
 obtain⟨r,j,h,k,l,o,y,e,q⟩:=q;simp only[Ev.aN]at e;obtain⟨p,f,z,e⟩:=Ev.ai e;refine⟨r,j,h,p,f,o,y,z,λH1 x d f1=>?_⟩;cases p with
 |true=>exact⟨x,j,f,k,l,o.mono f1,d,e,λH2 A i f2=>q H2 A i (f1.trans f2)⟩
 |false=>
  have B:R.ok false f=R.ok k l:=e;cases B;exact q H1 x d f1
def CW{rest:List Expr}(ha:JT G n sc N df m a xa)(hb:JW G n sc N df m b (.BoolOp .Or (xb :: rest) pos)):JW G n sc N df m (.orr a b) (.BoolOp .Or (xa :: xb :: rest) pos):=λX g=>PW.of (Sn (ha X g) (hb X g)) λs H Q q=>by
 obtain⟨r,j,h,k,l,o,y,e,q⟩:=q;simp only[Ev.aN]at e;obtain⟨p,f,z,e⟩:=Ev.ai e;refine⟨r,j,h,p,f,o,y,z,λH1 x d f1=>?_⟩;cases p with
 |false=>exact⟨x,j,f,k,l,o.mono f1,d,e,λH2 A i f2=>q H2 A i (f1.trans f2)⟩
 |true=>
  have B:R.ok true f=R.ok k l:=e;cases B;exact q H1 x d f1
def S7(ha:JT G n sc N df m a xa):JT G n sc N df m (.nt a) (.UnaryOp .Not xa pos):=λX g=>PT.of (Mq (ha X g)) λs H Q q=>by
 obtain⟨r,f,h,k,x,i,j,e,q⟩:=q;simp only[Ev.aN]at e;obtain⟨l,y,o,e⟩:=Ev.ai e;cases e;exact⟨r,f,h,l,_,i,j,o,λH1 p d f1=>q H1 p d f1⟩
def Nj{K:PySem.W.Frag}{H:Hp}{r:List Addr}{h:Hh}{d:D}{v:V}{k:Bool}(hr:HR K H r h)(v1:RV K H r d v)(e:Ev.truthy h d=some k):Fx K v H k:=by
 cases d with
 |aD=>simp only[RV]at v1;subst v1;cases e;rfl
 |bl x=>simp only[RV]at v1;subst v1;cases e;rfl
 |int x=>simp only[RV]at v1;subst v1;cases e;rfl
 |str x=>
  simp only[RV]at v1;obtain⟨rfl,z⟩:=v1;cases e;refine⟨by rw[dz];exact z,?_⟩;rw[dz];cases x with
  |nil=>rfl
  |cons c l=>simp;omega
 |tup ds=>
  simp only[RV]at v1;obtain⟨p,f,rfl,z,q⟩:=v1;cases e;refine .inr (.inl ⟨f,z,?_⟩);have A:=q.length;cases ds<;>cases f<;>simp_all
 |ref i=>
  simp only[RV]at v1;obtain⟨p,rfl,z⟩:=v1;by_cases g:∃kvs,h[i]?=some (.fj kvs)
  .obtain⟨kvs,j⟩:=g;simp only[Ev.truthy,j]at e;obtain⟨B,o,C,_⟩:=hr.fj j;rw[z]at o;cases o;refine .inr (.inr ⟨_,C,?_⟩);cases e;cases kvs<;>rfl
  have F:Ev.truthy h (.ref i)=(Ev.bO h i).map λds=>!ds.isEmpty:=by
   first
    |rfl
    | (simp only[Ev.truthy];split<;>first|rfl | (rename_i kvs z;first|exact(Ze ⟨kvs,z⟩).elim|exact(g ⟨kvs,z⟩).elim))
  rw[F]at e;simp only[aab]at e;obtain⟨ds,j,rfl⟩:=e;obtain⟨B,f,y,I,J⟩:=hr.read j;rw[z]at y;cases y;refine .inl ⟨f,I,?_⟩;have A:=J.length;cases ds<;>cases f<;>simp_all
def Nk(ha:JE G n sc N df m a xa)(he:∀(P:aS) fr h,Ev.aN P a fr h=(Ev.ev P a fr h).bind λx h1=>R.of (Ev.truthy h1 x) h1:=by intros;simp only[Ev.aN])
  (hx:autoParam (∀(env:Env) whole,isTrue xa env whole=(do let v <-whole;standAt xa.pos;holding [v] (truthy v))) zl._auto_1):JT G n sc N df m a xa:=λX g=>PT.of (Fy (ha X g) (hx _)) λs H Q q=>by
 obtain⟨r,fr,h,k,y,i,j,e,q⟩:=q;rw[he]at e;obtain⟨d,h1,l,e⟩:=Ev.ai e;obtain⟨e,rfl⟩:=Ev.aF e;refine⟨r,fr,h,d,_,i,j,l,λv H1 o p f f1=>⟨k,Nj f p e,q H1 o f f1⟩⟩
noncomputable def Nl:D->D->Hh->R D:=λx y h=>R.of (Ev.gj x y h) h
def S8(ho:∀X,Good G n sc N df X->zF X (iU X.K Nl))(ha:JE G n sc N df m a xa)(hb:JE G n sc N df m b xb)(hs:autoParam (zE xb) zl._auto_1):JE G n sc N df m (.ix a b) (.Subscript xa xb pos):=
 λX g=>PE.of (SN (ho X g) (ha X g) (hb X g) hs) (rQ λd h=>by simp only[Ev.ev,Nl])
def S9:JO G n sc N df m .no none:=λX g=>PO.of J6 λs H Q q=>by
 obtain⟨r,f,h,o,i,j,d,e,q⟩:=q;simp only[Ev.gk]at e;cases e;exact q H r d .refl
def Nm(ha:JE G n sc N df m a xa):JO G n sc N df m (.yes a) (some xa):=λX g=>PO.of (J7 (ha X g)) λs H Q q=>by
 obtain⟨r,j,h,o,A,l,p,e,q⟩:=q;simp only[Ev.gk]at e;obtain⟨d,B,x,e⟩:=Ev.ai e;obtain⟨e,rfl⟩:=Ev.aF e;cases d with
 |int i=>
  cases e;exact⟨r,j,h,.int i,_,l,p,x,λv H1 y z f f1=>⟨i,z,q H1 y f f1⟩⟩
 |_=>cases e
def Tc{lo hi:Eo}{xl xh:Option Expr}{p2}(ho:∀X,Good G n sc N df X->kR X (M8 X.K))(ha:JE G n sc N df m a xa)(hl:JO G n sc N df m lo xl)(hu:JO G n sc N df m hi xh):JE G n sc N df m (.sl a lo hi) (.Subscript xa (.Slice xl xh none p2) pos):=
 λX g=>PE.of (FA (ho X g) (ha X g) (hl X g) (hu X g)) λs H Q q=>by
  obtain⟨r,f,h,d,A,i,B,e,q⟩:=q;simp only[Ev.ev]at e;obtain⟨x,p,C,e⟩:=Ev.ai e;obtain⟨l,y,F,e⟩:=Ev.ai e;obtain⟨u,z,I,e⟩:=Ev.ai e;refine⟨r,f,h,x,p,i,B,C,λv H1 J L j f1=>?_⟩;refine⟨J,f,p,l,y,i.mono f1,j,F,λH2 M o f2=>?_⟩;refine⟨M,f,y,u,z,(i.mono f1).mono f2,o,I,λH3 P W f3=>?_⟩;exact⟨P,z,x,d,A,W,(L.mono f2).mono f3,e,q.later ((f1.trans f2).trans f3)⟩
def Ko{K:PySem.W.Frag}{P:aS}{es:Es}{f:List D->Hh->R D}{e':E}(he:∀fr h,Ev.ev P e' fr h=(Ev.bL P es fr h).bind f) :
  ∀s H Q,tJ K m P e' s H Q->MM (wu K f) (M7 K m P es) s H Q:=λs H Q q=>by
 obtain⟨r,fr,h,d,j,l,o,e,q⟩:=q;rw[he]at e;obtain⟨ds,i,p,e⟩:=Ev.ai e;exact⟨r,fr,h,ds,i,l,o,p,λz H1 x y g f1=>⟨x,i,ds,d,j,g,y,e,q.later f1⟩⟩
def vn{k:BI}{es:Es}{x:Str}{id:String}{e0:Expr}{xs:List Expr}{p:Pos}(hc:∀X,Good G n sc N df X->gi X (.builtin id) (wu X.K (Ev.cY k)))(hs:JA G n sc N df m es (e0 :: xs))(hb:autoParam (x∈G.bl) zi._auto_1)
  (hg:autoParam (sc.names.lookup x=some .globalImplicit) zb._auto_1) (hv:bootBuiltins x=some (.builtin id)) (hn:autoParam (x≠"__name__" ) zP._auto_1) (hd:autoParam ((x==("__debug__" : Str))=false) zP._auto_1)
  (hst:autoParam (∀env:Env,starEach (e0 :: xs) env=(false,eval e0 env) :: starEach xs env) zf._auto_1) (hpl:autoParam (∀env:Env,(backTo pos (starEach xs env)).any (·.1)=false) zf._auto_1) :
  JE G n sc N df m (.bi k es) (.Call (.Name x p) (e0 :: xs) [] pos):=
 λX g=>PE.of (vV (hc X g) (g.gl hg) (g.bl x hb) hv (hs X g) hn hd (hst _) (hpl _)) (Ko λd h=>by simp only[Ev.ev])
def Td{f:Nat}{i:FI}{es:Es}{e0:Expr}{xs:List Expr}{p:Pos}(hf:G.fi[f]?=some i)(hs:JA G n sc N df m es (e0 :: xs))
  (hg:autoParam (sc.names.lookup i.name=some .globalImplicit) zb._auto_1) (hd:autoParam ((i.name==("__debug__" : Str))=false) zP._auto_1)
  (hst:autoParam (∀env:Env,starEach (e0 :: xs) env=(false,eval e0 env) :: starEach xs env) zf._auto_1) (hpl:autoParam (∀env:Env,(backTo pos (starEach xs env)).any (·.1)=false) zf._auto_1) :
  JE G n sc N df m (.cl f es) (.Call (.Name i.name p) (e0 :: xs) [] pos):=λX g=>by
 obtain⟨o,x,y,z⟩:=g.fn f i hf;refine PE.of (J3 z g.room (g.gl hg) o x y .nil SS (hs X g) hd (hst _) (hpl _)) λs H Q q=>?_;obtain⟨r,A,h,d,B,C,F,e,q⟩:=q;simp only[Ev.ev]at e;obtain⟨ds,l,I,e⟩:=Ev.ai e;refine⟨r,A,h,ds,l,C,F,I,λL H1 J K j f1=>?_⟩;exact⟨J,l,ds,d,B,by rw[aaD];exact K,j,e,q.later f1⟩
noncomputable def FT:ME->String
 |.join=>"str"
 |_=>"list"
def CY{K:PySem.W.Frag}{H:Hp}{r:List Addr}{h:Hh}{k:ME}{d:D}{v:V}{ty:String}(hr:HR K H r h)(v1:RV K H r d v)(e:Ev.nR k d h=true)(ht:ty=FT k):CH K ty v H:=by
 subst ht;have lst:∀i,d=.ref i->(Ev.bO h i).isSome=true->CH K "list" v H:=λi g j=>by
  subst g;obtain⟨ds,o⟩:=Option.isSome_iff_exists.mp j;obtain⟨p,q,x,y,z⟩:=hr.read o;simp only[RV]at v1;obtain⟨A,rfl,f⟩:=v1;rw[x]at f;cases f;exact .inl ⟨rfl,q,y⟩
 cases k with
 |join=>
  cases d with
  |str l=>simp only[RV]at v1;obtain⟨rfl,_⟩:=v1;rfl
  |_=>cases e
 |append=>cases d with|ref i=>exact lst i rfl e|_=>cases e
 |extend=>cases d with|ref i=>exact lst i rfl e|_=>cases e
 |pop=>cases d with|ref i=>exact lst i rfl e|_=>cases e
 |count=>cases d with|ref i=>exact lst i rfl e|_=>cases e
 |index=>cases d with|ref i=>exact lst i rfl e|_=>cases e
def vp {k:ME}{es:Es}{e0:Expr}{xs:List Expr}{name:Str}{apos:Pos}{ty id:String}(pa:PlainAttrs ty) (slot:Slot ty name id) (hty:typeOf (.builtin id)=pure (.type "method_descriptor"))
  (hm:∀X,Good G n sc N df X->rF X id (uv X.K (Ev.eF k))) (ht:ty=FT k) (ha:JE G n sc N df m a xa) (hs:JA G n sc N df m es (e0 :: xs))
  (hbase:autoParam (∀env:Env,attributeBase xa name env (eval xa env)=eval xa env) zf._auto_1)
  (hfew:autoParam (∀env:Env,((backTo pos (starEach (e0 :: xs) env)).all (λx=>!x.1)&&(backToKw pos (keywordEach [] env)).all (λx=>x.1.isSome)
   &&decide ((e0 :: xs).length+([]:List Keyword).length+(if ([]:List Keyword).isEmpty then 0 else 1)<30))=true) zf._auto_1)
  (hline:autoParam ((apos.endLine==pos.line)=true) zb._auto_1) (hst:autoParam (∀env:Env,starEach (e0 :: xs) env=(false,eval e0 env) :: starEach xs env) zf._auto_1) (hpl:autoParam (∀env:Env,(backTo pos (starEach xs env)).any (·.1)=false) zf._auto_1) :
  JE G n sc N df m (.me k a es) (.Call (.Attribute xa name apos) (e0 :: xs) [] pos):=λX g=>
 PE.of (SQ pa slot hty (hm X g) (ha X g) (hs X g) (hbase _) (hfew _) hline (hst _) (hpl _)) λs H Q q=>by
  obtain⟨r,j,h,d,z,l,A,e,q⟩:=q;simp only[Ev.ev]at e;obtain⟨x,o,B,e⟩:=Ev.ai e;split at e
  .rename_i C;obtain⟨ds,p,F,e⟩:=Ev.ai e;refine⟨r,j,h,x,o,l,A,B,λv H1 I y f f1=>⟨CY f y C ht,?_⟩⟩;refine⟨I,j,o,ds,p,l.mono f1,f,F,λM H2 J L i f2=>?_⟩;exact⟨J,p,x,ds,d,z,i,y.mono f2,L,e,q.later (f1.trans f2)⟩
  .cases e
def Nn {k:ME}{name:Str}{apos:Pos}{ty id:String}(pa:PlainAttrs ty) (slot:Slot ty name id) (hty:typeOf (.builtin id)=pure (.type "method_descriptor"))
  (hm:∀X,Good G n sc N df X->rF X id (uv X.K (Ev.eF k))) (ht:ty=FT k) (ha:JE G n sc N df m a xa)
  (hbase:autoParam (∀env:Env,attributeBase xa name env (eval xa env)=eval xa env) zf._auto_1) (hline:autoParam ((apos.endLine==pos.line)=true) zb._auto_1) :
  JE G n sc N df m (.me k a .nil) (.Call (.Attribute xa name apos) [] [] pos):=λX g=>
 PE.of (MR pa slot hty (hm X g) (ha X g) (hbase _) hline) λs H Q q=>by
  obtain⟨r,l,h,d,o,p,y,e,q⟩:=q;simp only[Ev.ev]at e;obtain⟨x,i,z,e⟩:=Ev.ai e;split at e
  .rename_i A;simp only[Ev.bL,Ev.ao]at e;refine⟨r,l,h,x,i,p,y,z,λv H1 B j f f1=>⟨CY f j A ht,?_⟩⟩;exact⟨B,i,x,[],d,o,f,j,.nil,e,q.later f1⟩
  .cases e
end
end Sm
namespace Sm
open PySem PySem.Spec PyProof.Rows L2
open Ev (D O Hh Fr R aS E Es Eo T S Ss Fl Src bV bR TY BI ME)
def qM(K:PySem.W.Frag)(r0:List Addr)(H0:Hp)(s:Src)(J:L2.It):Prop:=∀(i:Nat) H1 r1 h1,HR K H1 r1 h1->Fm K r0 r1 H0 H1->Ev.stays h1 s.2=true->
 (∀d,s.1[i]?=some d->J.go i H1/\∀x H2,J.HY i H1 x H2->∃r2,RV K H2 r2 d x/\HR K H2 r2 h1/\Fm K r1 r2 H1 H2)/\(s.1.length<=i->J.stop i H1)
inductive UK(K:PySem.W.Frag)(m:List Nat)(P:aS)(it:Ev.It)(s:L2.St)(H:Hp)(Rr:L2.It->Hp->Prop):Prop
 |mk (r:List Addr) (fr:Fr) (h:Hh) (src:Src) (h':Hh) (c0:SR K m H r fr s) (c1:HR K H r h) (c2:Ev.dj P it fr h=.ok src h') (c3:∀J H' r',HR K H' r' h'->Fm K r r' H H'->qM K r' H' src J->Rr J H'):UK K m P it s H Rr
def JI(G:Tb)(n:Nat)(sc:Scope)(N:List Str)(df:Bool)(m:List Nat)(it:Ev.It)(tg x:Expr):Prop:=∀X,Good G n sc N df X->PI X tg x (UK X.K m (Ev.run G.F G.w n) it)
noncomputable def Ig(z:Str):L2.It:=⟨λi _=>i<z.length,λi H x H'=>H'=H/\∃c,z.cps[i]?=some c/\x=.str ⟨#[c]⟩,λi _=>z.length<=i⟩
def Np{M:Model}{A:Around}{E:Value->Shared->Prop}{s:Shared}{tg:Expr}{it:Value}{x:Str}{t:Tok}{Q:Unit->Shared->Prop}(hQ:Q () s):wpAny M A (letOwnedTupleGo tg it (.str x t)) Q E s:=by
 unfold letOwnedTupleGo;cases tg<;>first
  |exact aaf hQ
  | (cases it<;>exact aaf hQ)
def wz {P:Program}{w:World}{K:PySem.W.Frag}{tg:Expr}(z:Str) (t:Tok) (it:Addr) (ty:String) (hty:ty = "str_ascii_iterator" \/ty = "str_iterator") :
  Turn P w K tg (Ig z) [it] it (λi h=>h.IsStrIter it ty z t i) where
 mem:=by simp
 obj:=λi h a b f=>by
  have e:b=it:=by simpa using f
  subst e;obtain⟨o,e,c,d⟩:=a;exact⟨o,e,λv z=>by rw[d]at z;cases z⟩
 keep:=λi h l a k=>by
  obtain⟨o,e,c,d⟩:=a;exact⟨o,k it (by simp) o e,c,d⟩
 item:=by
  intro X p q r j i g s σ H E I hf a hg;subst p q r;obtain⟨f0,f1,f2,f3,f4,f5⟩:=hf it (by simp);have W:Walks X.prog X.w X.A it [it] [it] z.cps.size (SignAt z) (λi h=>h.IsStrIter it ty z t i):=by
   rcases hty with e|e
   .subst e;exact Walks.strAscii (I.ok.hd j) it z t
   .subst e;exact Walks.strWide (I.ok.hd j) it z t
  refine W.item i s _ _ hg a λv l tk C x F=>?_;obtain⟨c,u,y,rfl⟩:=C;have I1:Inv X g σ H { s with heap:=l,toks:=tk }:=I.turned (λb o f e=>F b o (by simpa using f) e) f0 f1 f3 f4 f5;exact⟨_,rfl,Np ⟨.str ⟨#[c]⟩,H,I1,⟨u,rfl⟩,⟨rfl,c,y,rfl⟩,x,λb f=>(hf b f).1⟩⟩
 done:=by
  intro X p q r j i g s σ H E I hf a hg;subst p q r;obtain⟨f0,f1,f2,f3,f4,f5⟩:=hf it (by simp);rcases hty with e|e
  .subst e;exact wpAny_pyNext_ascii_end (I.ok.hd j) a (by simpa[Str.length,Ig]using hg) λl B=>⟨rfl,I.turned (t':=s.toks) (λb o f e=>B b o f e) f0 f1 f3 f4 f5⟩
  .subst e;exact wpAny_pyNext_wide_end (I.ok.hd j) a (by simpa[Str.length,Ig]using hg) λl B=>⟨rfl,I.turned (t':=s.toks) (λb o f e=>B b o f e) f0 f1 f3 f4 f5⟩
 self:=λ_ _ _ _ _ a h=>by
  rcases hty with e|e
  .subst e;exact wpAny_pyIter_striter_ascii a h
  .subst e;exact wpAny_pyIter_striter_wide a h
def Ih(K:PySem.W.Frag)(x:V)(H:Hp)(Rr:L2.It->Hp->Prop):Prop:=
 (∃a xs,x=.ref a/\fQ K H a xs/\Rr (UC K a) H)\/(∃a xs,x=.ref a/\dQ K H a xs/\Rr (UD K a) H)\/∃z,x=.str z/\Rr (Ig z) H
def Nq{X:Cx}{tg l:Expr}{tl:TE}{wi:TI}(hl:PE X l tl)(hw:∀s H Rr,wi s H Rr->tl s H λx H1=>Ih X.K x H1 Rr):PI X tg l wi:=by
 intro c s σ H Rr I h;refine bQ (hl c s σ H _ I (hw _ _ _ h)) λv s1 zr=>?_;obtain⟨x,H1,I1,g,j⟩:=zr;have f:∀(o:Obj) b,b∈[s1.heap.objs.size]->iR X c H1 b:=λo b r=>by
  have e:b=s1.heap.objs.size:=by simpa using r
  subst e;exact I1.Ba (aae _) (I1.hok.fresh (aae _))
 rcases j with ⟨a,y,rfl,i,q⟩|⟨a,y,rfl,i,q⟩|⟨z,rfl,q⟩
 .cases g;obtain⟨d,rv,p,A⟩:=I1.list i;refine wpAny_pyIter_list p.isList ?_;exact⟨s1.heap.objs.size,[s1.heap.objs.size],_,_,H1,rfl,I1.kept (t':=s1.toks) λb o e=>aac _ e,Cy a _,⟨_,aat _ rfl,rfl,rfl⟩,f default,q⟩
 .cases g;obtain⟨d,rv,p,A⟩:=I1.tuple i;refine wpAny_pyIter_tuple (show s1.heap.IsTuple a d.toArray from p) ?_;exact⟨s1.heap.objs.size,[s1.heap.objs.size],_,_,H1,rfl,I1.kept (t':=s1.toks) λb o e=>aac _ e,Bb a _,⟨_,aat _ rfl,rfl,rfl⟩,f default,q⟩
 .obtain⟨t,rfl⟩:=g;cases ha:z.cps.all (· < 128)
  .refine wpAny_pyIter_wide ha ?_;exact⟨s1.heap.objs.size,[s1.heap.objs.size],_,_,H1,rfl,I1.kept (t':=s1.toks) λb o e=>aac _ e,wz z t _ _ (.inr rfl),⟨_,aat _ rfl,rfl,rfl⟩,f default,q⟩
  .refine wpAny_pyIter_ascii ha ?_;exact⟨s1.heap.objs.size,[s1.heap.objs.size],_,_,H1,rfl,I1.kept (t':=s1.toks) λb o e=>aac _ e,wz z t _ _ (.inl rfl),⟨_,aat _ rfl,rfl,rfl⟩,f default,q⟩
def FY{h:Hh}{n:Nat}{ds:List D}(e:Ev.stays h [(n,ds)]=true):Ev.gq h n=some ds:=by
 simp only[Ev.stays,Bool.and_true]at e;split at e
 .rename_i a q;rw[q,(Ev.ur _ _).mp e]
 .cases e
def CZ{h:Hh}{n:Nat}{ds:List D}(e:Ev.stays h [(n,.int 0 :: ds)]=true):Ev.bO h n=some ds:=by
 have e:=FY e;unfold Ev.gq at e;obtain⟨o,q,e⟩:=Option.map_eq_some_iff.mp e;unfold Ev.bO;rw[q];cases o<;>first | (cases e;rfl) | (cases e)
def Kp{K:PySem.W.Frag}{H:Hp}{r:List Addr}{h:Hh}{d:D}{v:V}{src:Src}{Rr:L2.It->Hp->Prop}(hr:HR K H r h)(v1:RV K H r d v)(e:Ev.gI h d=some src)(q:∀J,qM K r H src J->Rr J H):Ih K v H Rr:=by
 cases d with
 |tup ds=>
  simp only[RV]at v1;obtain⟨a,j,rfl,z,w⟩:=v1;cases e;refine .inr (.inl ⟨a,j,rfl,z,q _ λi H1 o I b f1 B=>⟨λL f=>?_,λp=>?_⟩⟩)
  .obtain⟨u,A,g⟩:=w.get f;refine⟨⟨j,u,f1.tups _ _ z,A⟩,λx H2 y=>?_⟩;obtain⟨rfl,y⟩:=y;have:=y j (f1.tups _ _ z);rw[A]at this;cases this;exact⟨o,g.mono f1,b,.refl⟩
  .exact⟨j,f1.tups _ _ z,by rw[w.length];exact p⟩
 |str l=>
  simp only[RV]at v1;obtain⟨rfl,z⟩:=v1;cases e;refine .inr (.inr ⟨_,rfl,q _ λi H1 o I b f1 B=>⟨λL f=>?_,λp=>?_⟩⟩)
  .rw[aaA]at f;cases g:l[i]? with
   |none=>rw[g]at f;cases f
   |some c=>
    rw[g]at f;cases f;refine⟨by show i<(aO l).length;rw[dz];exact(List.getElem?_eq_some_iff.mp g).1,λx H2 y=>?_⟩;obtain⟨rfl,Z,M,rfl⟩:=y;have C:(aO l).cps[i]?=some c:=by simp[aO,g]
    rw[C]at M;cases M;exact⟨o,⟨rfl,by show 1<=sizeLine;decide⟩,b,.refl⟩
  .show(aO l).length<=i;rw[dz];simpa using p
 |ref k=>
  simp only[RV]at v1;obtain⟨a,rfl,z⟩:=v1;simp only[Ev.gI,aab]at e;obtain⟨ds,A,rfl⟩:=e;obtain⟨X,j,g,C,e4⟩:=hr.read A;rw[z]at g;cases g;refine .inl ⟨a,j,rfl,C,q _ λi H1 o I b f1 B=>?_⟩;obtain⟨X,F,N,G,P⟩:=b.read (CZ B);rw[f1.pre _ _ z]at N;cases N;refine⟨λL f=>?_,λp=>⟨F,G,by rw[P.length];exact p⟩⟩;obtain⟨u,Q,Y⟩:=P.get f;refine⟨⟨F,u,G,Q⟩,λx H2 y=>?_⟩;obtain⟨rfl,y⟩:=y;have:=y F G;rw[Q]at this;cases this;exact⟨o,Y,b,.refl⟩
 |_=>cases e
section
variable{G:Tb}{n:Nat}{sc:Scope}{N:List Str}{df:Bool}{m:List Nat}{a b:E}{xa tg:Expr}{pos:Pos}
def Nr(ha:JE G n sc N df m a xa):JI G n sc N df m (.seq a) tg xa:=λX g=>Nq (ha X g) λs H Rr q=>by
 obtain⟨r,f,h,src,y,i,j,e,q⟩:=q;simp only[Ev.dj]at e;obtain⟨d,z,l,e⟩:=Ev.ai e;obtain⟨e,rfl⟩:=Ev.aF e;refine⟨r,f,h,d,_,i,j,l,λv H1 o p c f1=>?_⟩;exact Kp c p e λJ x=>q J H1 o c f1 x
def PI.of{X:Cx}{tg l:Expr}{t t':TI}(h:PI X tg l t)(w:∀s H Q,t' s H Q->t s H Q):PI X tg l t':=λpins s σ H Q I q=>h pins s σ H Q I (w _ _ _ q)
def Nt{K:PySem.W.Frag}{r:List Addr}{H:Hp}(lo:Int)(k:Nat):qM K r H (Ev.range lo k,[]) (HZ lo k):=λi H1 g p c f1 q=>by
 refine⟨λd e=>?_,λh=>?_⟩
 .simp only[Ev.range,aaA]at e;cases e2:(List.range k)[i]? with
  |none=>rw[e2]at e;cases e
  |some j=>
   rw[e2]at e;cases e;have f:i<k:=by simpa using (List.getElem?_eq_some_iff.mp e2).1
   have l:j=i:=by
    rw[abo f]at e2;exact(W0 e2).symm
   subst l;refine⟨f,λx H2 y=>?_⟩;obtain⟨rfl,rfl⟩:=y;exact⟨g,rfl,c,.refl⟩
 .have:(Ev.range lo k).length=k:=by simp[Ev.range]
  show k<=i;have o:(Ev.range lo k).length<=i:=h;omega
def Kq {e1:E}{p:Pos}(hs:JA G n sc N df m (.cons e1 .nil) [xa]) (hg:autoParam (sc.names.lookup ("range" : Str)=some .globalImplicit) zb._auto_1) (hb:autoParam (("range" : Str)∈G.bl) zi._auto_1)
  (hst:autoParam (∀env:Env,starEach [xa] env=[(false,eval xa env)]) zf._auto_1):JI G n sc N df m (.jh (.cons e1 .nil)) tg (.Call (.Name "range" p) [xa] [] pos):=λX g=>
 PI.of (Cz (g.gl hg) (g.bl _ hb) (hs X g) (hst _)) λs H Rr q=>by
  obtain⟨r,l,h,src,z,o,x,e,q⟩:=q;simp only[Ev.dj]at e;obtain⟨ds,A,e1,e⟩:=Ev.ai e;obtain⟨e,rfl⟩:=Ev.aF e;refine⟨r,l,h,ds,_,o,x,e1,λB H1 y f c f1=>?_⟩;unfold Ev.fE at e;split at e
  .rename_i j;split at e
   .rename_i i;cases e;simp only[aH,RV]at f;obtain⟨v,w,rfl,rfl,rfl⟩:=f;exact⟨_,rfl,i.1,i.2,q _ H1 y c f1 (Nt 0 _)⟩
   .cases e
  .exfalso;simp only[Ev.bL]at e1;obtain⟨d,_,_,e1⟩:=Ev.ai e1;simp only[Ev.ao]at e1;cases e1
  .exfalso;simp only[Ev.bL]at e1;obtain⟨d,_,_,e1⟩:=Ev.ai e1;simp only[Ev.ao]at e1;cases e1
  .cases e
inductive gJ(K:PySem.W.Frag)(m:List Nat)(t:T)(v:V)(s:L2.St)(H:Hp)(Q:L2.St->Hp->Prop):Prop
 |mk (r:List Addr) (fr:Fr) (h:Hh) (d:D) (aj:Fr) (c0:SR K m H r fr s) (c1:HR K H r h) (c2:RV K H r d v) (c3:Ev.cS t d fr=some aj) (c4:∀s',SR K m H r aj s'->Q s' H):gJ K m t v s H Q
def JG(G:Tb)(n:Nat)(sc:Scope)(N:List Str)(df:Bool)(m:List Nat)(t:T)(x:Expr):Prop:=∀X,Good G n sc N df X->PG X x (gJ X.K m t)
def PG.of{X:Cx}{e:Expr}{t t':TG}(h:PG X e t)(w:∀v s H Q,t' v s H Q->t v s H Q):PG X e t':=λpins s σ H v u Q I r q=>h pins s σ H v u Q I r (w _ _ _ _ q)
theorem SR.set{K:PySem.W.Frag}{m:List Nat}{H:Hp}{r:List Addr}{fr:Fr}{s:L2.St}(sr:SR K m H r fr s)(hm:m.Nodup){j i:Nat}(hj:m[j]?=some i){d:D}{v:V}(v1:RV K H r d v):SR K m H r (fr.set i (some d)) (s.set j (some v)):=by
 refine⟨by simp[sr.len],λl f o e c=>?_⟩;by_cases g:f=i
 .subst g;have:l=j:=C0 hm e hj;subst this;have h:f<fr.length:=by
   have:=(List.getElem?_eq_some_iff.mp c).1;simpa using this
  rw[aad h]at c;cases c;refine⟨v,aad ?_,v1⟩;rw[sr.len];exact(List.getElem?_eq_some_iff.mp hj).1
 .rw[Uk (λz=>g z.symm)]at c;obtain⟨u,p,q⟩:=sr.sl l f o e c;refine⟨u,?_,q⟩;rw[Uk]
  .exact p
  .intro z;subst z;rw[hj]at e;cases e;exact g rfl
where
 C0 {l:List Nat} (hl:l.Nodup) {i j:Nat} {x:Nat} (a:l[i]?=some x) (b:l[j]?=some x):i=j:=by
  have ha:=(List.getElem?_eq_some_iff.mp a)
  have hb:=(List.getElem?_eq_some_iff.mp b)
  obtain⟨h1,e1⟩:=ha;obtain⟨h2,e2⟩:=hb;exact(List.getElem_inj hl).mp (e1.trans e2.symm)
def Good.loc{X:Cx}(g:Good G n sc N df X){x:Str}(h:sc.names.lookup x=some .local\/(df=true/\sc.names.lookup x=some .cell)):Loc X.env.scope x/\(X.fn x=true\/X.env.scope.names.lookup x=some .local):=by
 rw[show Loc X.env.scope x↔Loc sc x by rw[g.sc],g.sc];rcases h with h|⟨c,h⟩
 .exact⟨.inl h,.inr h⟩
 .exact⟨.inr h,.inl (g.own c x)⟩
def Nu(j i:Nat){x:Str}(hm:m.Nodup)(hN:N.Nodup)(hj:autoParam (m[j]?=some i) zb._auto_1)(uw:autoParam (N[j]?=some x) zb._auto_1)
  (hl:autoParam (sc.names.lookup x=some .local\/(df=true/\sc.names.lookup x=some .cell)) zn._auto_1):JG G n sc N df m (.one i) (.Name x pos):=λX g=>by
 obtain⟨c,f⟩:=g.loc hl;refine PG.of (zz (i:=j) (by rw[g.nm];exact hN) (by rw[g.nm];exact uw) c f) λv s H Q q=>?_;obtain⟨r,p,h,d,y,l,z,o,e,q⟩:=q;cases e;exact q _ (l.set hm hj o)
inductive UL(K:PySem.W.Frag)(m:List Nat)(l:List Nat)(vs:List V)(s:L2.St)(H:Hp)(Q:L2.St->Hp->Prop):Prop
 |mk (r:List Addr) (fr:Fr) (h:Hh) (ds:List D) (aj:Fr) (c0:SR K m H r fr s) (c1:HR K H r h) (c2:aH K H r ds vs) (c3:Ev.di l ds fr=some aj) (c4:∀s',SR K m H r aj s'->Q s' H):UL K m l vs s H Q
def ux(G:Tb)(n:Nat)(sc:Scope)(N:List Str)(df:Bool)(m:List Nat)(l:List Nat)(xs:List Expr):Prop:=∀X,Good G n sc N df X->qo X xs (UL X.K m l)
def qo.of{X:Cx}{e:List Expr}{t t':uc}(h:qo X e t)(w:∀v s H Q,t' v s H Q->t v s H Q):qo X e t':=λpins s σ H v u Q I r q=>h pins s σ H v u Q I r (w _ _ _ _ q)
def Kr:ux G n sc N df m [] []:=λX g=>qo.of JY λf s H Q q=>by
 obtain⟨r,i,h,ds,j,d,l,c,e,q⟩:=q;cases ds with
 |nil=>simp only[aH]at c;subst c;cases e;exact⟨rfl,q _ d⟩
 |cons _ _=>cases e
def FZ(j i:Nat){x:Str}{l:List Nat}{xs:List Expr}(hm:m.Nodup)(hN:N.Nodup)(hs:ux G n sc N df m l xs)(hj:autoParam (m[j]?=some i) zb._auto_1)(uw:autoParam (N[j]?=some x) zb._auto_1)
  (hl:autoParam (sc.names.lookup x=some .local\/(df=true/\sc.names.lookup x=some .cell)) zn._auto_1)
  (hst:autoParam (∀env:Env,(assignEach (.Name x pos :: xs) env).map (·.2)=assign (.Name x pos) env :: (assignEach xs env).map (·.2)) zf._auto_1):ux G n sc N df m (i :: l) (.Name x pos :: xs):=λX g=>by
 obtain⟨f,o⟩:=g.loc hl;refine qo.of (Fp (zz (i:=j) (by rw[g.nm];exact hN) (by rw[g.nm];exact uw) f o) (hs X g) (hst _)) λC s H Q q=>?_;obtain⟨r,F,h,ds,p,y,z,c,e,q⟩:=q;cases ds with
 |nil=>cases e
 |cons d ds=>
  simp only[aH]at c;obtain⟨v,w,rfl,A,B⟩:=c;exact⟨v,w,rfl,r,_,h,ds,p,y.set hm hj A,z,B,e,q⟩
def Ks{l:List Nat}{xs:List Expr}{k:Nat}(hs:ux G n sc N df m l xs)(hn:autoParam (∀env:Env,(assignEach xs env).length=l.length) zf._auto_1)(hst:autoParam (∀env:Env,(assignEach xs env).findIdx? (·.1)=none) zf._auto_1) :
  JG G n sc N df m (.many l) (.Tuple xs k pos):=λX g=>PG.of (Mt (n:=l.length) g.calm (hs X g) (hn _) (hst _)) λv s H Q q=>by
 obtain⟨r,c,h,d,f,x,y,o,e,q⟩:=q;cases d with
 |tup ds=>
  simp only[RV]at o;obtain⟨p,A,rfl,z,w⟩:=o;have j:∀(l:List Nat) (ds:List D) c f,Ev.di l ds c=some f->ds.length=l.length:=by
   intro l;induction l with
   |nil=>intro ds c f e;cases ds with|nil=>rfl|cons _ _=>cases e
   |cons i l B=>intro ds c f e;cases ds with|nil=>cases e|cons d ds=>simp[B ds _ _ e]
  exact⟨p,A,rfl,z,by rw[w.length];exact j _ _ _ _ e,r,c,h,ds,f,x,y,w,e,q⟩
 |_=>cases e
end
def Fin(K:PySem.W.Frag)(m:List Nat)(r:List Addr)(H:Hp)(h':Hh)(fl:Fl)(aj:Fr)(Q:Ends):Prop:=match fl with
 |.nx=>∀s' H' r',SR K m H' r' aj s'->HR K H' r' h'->Fm K r r' H H'->Q.nx s' H'
 |.bk=>∀s' H' r',SR K m H' r' aj s'->HR K H' r' h'->Fm K r r' H H'->Q.bk s' H'
 |.ct=>∀s' H' r',SR K m H' r' aj s'->HR K H' r' h'->Fm K r r' H H'->Q.ct s' H'
 |.ret d=>Res K r H h' d Q.rt
theorem Fin.later{K:PySem.W.Frag}{m:List Nat}{r r':List Addr}{H H':Hp}{h':Hh}{fl:Fl}{aj:Fr}{Q:Ends}(q:Fin K m r H h' fl aj Q)(f:Fm K r r' H H'):Fin K m r' H' h' fl aj Q:=by
 cases fl with
 |nx=>exact λs2 H2 c a b g=>q s2 H2 c a b (f.trans g)
 |bk=>exact λs2 H2 c a b g=>q s2 H2 c a b (f.trans g)
 |ct=>exact λs2 H2 c a b g=>q s2 H2 c a b (f.trans g)
 |ret d=>exact Res.later q f
inductive UM(K:PySem.W.Frag)(m:List Nat)(P:aS)(w:Nat)(st:S)(Q:Ends)(s:L2.St)(H:Hp):Prop
 |mk (r:List Addr) (fr:Fr) (h:Hh) (fl:Fl) (aj:Fr) (h':Hh) (c0:SR K m H r fr s) (c1:HR K H r h) (c2:Ev.ex P w st fr h=.ok (fl,aj) h') (c3:Fin K m r H h' fl aj Q):UM K m P w st Q s H
inductive Ga(K:PySem.W.Frag)(m:List Nat)(P:aS)(w:Nat)(ss:Ss)(Q:Ends)(s:L2.St)(H:Hp):Prop
 |mk (r:List Addr) (fr:Fr) (h:Hh) (fl:Fl) (aj:Fr) (h':Hh) (c0:SR K m H r fr s) (c1:HR K H r h) (c2:Ev.exs P w ss fr h=.ok (fl,aj) h') (c3:Fin K m r H h' fl aj Q):Ga K m P w ss Q s H
def PS.of{X:Cx}{st:Stmt}{t t':TS}(h:PS X st t)(w:∀Q s H,t' Q s H->t Q s H):PS X st t':=λpins s σ H Q I q=>h pins s σ H Q I (w _ _ _ q)
def ji.of{X:Cx}{st:List Stmt}{t t':TS}(h:ji X st t)(w:∀Q s H,t' Q s H->t Q s H):ji X st t':=λpins s σ H Q I q=>h pins s σ H Q I (w _ _ _ q)
section
variable(G:Tb)(n:Nat)(sc:Scope)(N:List Str)(df:Bool)(m:List Nat)
def JS(st:S)(x:Stmt):Prop:=∀X,Good G n sc N df X->PS X x (UM X.K m (Ev.run G.F G.w n) G.w st)
def kC(ss:Ss)(xs:List Stmt):Prop:=∀X,Good G n sc N df X->ji X xs (Ga X.K m (Ev.run G.F G.w n) G.w ss)
end
section
variable{G:Tb}{n:Nat}{sc:Scope}{N:List Str}{df:Bool}{m:List Nat}{a b:E}{xa tg:Expr}{pos:Pos}
def Ku:kC G n sc N df m .nil []:=λX g=>ji.of JV λQ s H q=>by
 obtain⟨r,f,h,fl,i,j,c,d,e,q⟩:=q;simp only[Ev.exs]at e;cases e;exact q s H r c d .refl
def Gb{st:S}{ss:Ss}{x:Stmt}{xs:List Stmt}(h1:JS G n sc N df m st x)(h2:kC G n sc N df m ss xs):kC G n sc N df m (.cons st ss) (x :: xs):=λX g=>ji.of (Fi (h1 X g) (h2 X g)) λQ s H q=>by
 obtain⟨r,j,h,fl,l,o,p,y,e,q⟩:=q;simp only[Ev.exs]at e;obtain⟨⟨f,i⟩,h1,z,e⟩:=Ev.ai e;refine⟨r,j,h,f,i,h1,p,y,z,?_⟩;cases f with
 |nx=>exact λs1 H1 A C1 c f1=>⟨A,i,h1,fl,l,o,C1,c,e,q.later f1⟩
 |bk=>cases e;exact q
 |ct=>cases e;exact q
 |ret d=>cases e;exact q
def Nv(j i:Nat){x:Str}{pos':Pos}(hm:m.Nodup)(hN:N.Nodup)(ha:JE G n sc N df m a xa)(hs:autoParam (∀env:Env,swapsWith xa (some (.Name x pos')) pos.line env=pure false) zf._auto_1)(hj:autoParam (m[j]?=some i) zb._auto_1)(uw:autoParam (N[j]?=some x) zb._auto_1)
  (hl:autoParam (sc.names.lookup x=some .local\/(df=true/\sc.names.lookup x=some .cell)) zn._auto_1):JS G n sc N df m (.set i a) (.Assign [.Name x pos'] xa pos):=λX g=>by
 obtain⟨f,o⟩:=g.loc hl;refine PS.of (rB (i:=j) (by rw[g.nm];exact hN) (by rw[g.nm];exact uw) f (ha X g) (hs _) o) λQ s H q=>?_;obtain⟨r,p,h,fl,C,F,l,y,e,q⟩:=q;simp only[Ev.fR]at e;obtain⟨d,f,z,e⟩:=Ev.ai e;cases e;exact⟨r,p,h,d,_,l,y,z,λv H1 A B c f1=>q _ H1 A ((l.mono f1).set hm hj B) c f1⟩
def Nx(ha:JE G n sc N df m a xa)(hs:autoParam (∀env:Env,swapsWith xa none pos.line env=pure false) zf._auto_1):JS G n sc N df m (.exp a) (.Expr xa pos):=λX g=>PS.of (JX (ha X g) (hs _)) λQ s H q=>by
 obtain⟨r,i,h,fl,p,x,f,j,e,q⟩:=q;simp only[Ev.fR]at e;obtain⟨d,y,l,e⟩:=Ev.ai e;cases e;exact⟨r,i,h,d,_,f,j,l,λv H1 o z c f1=>q s H1 o (f.mono f1) c f1⟩
def Ny(ha:JE G n sc N df m a xa):JS G n sc N df m (.ret a) (.Return (some xa) pos):=λX g=>PS.of (Mr (ha X g)) λQ s H q=>by
 obtain⟨r,c,h,fl,l,o,f,i,e,q⟩:=q;simp only[Ev.fR]at e;obtain⟨d,p,j,e⟩:=Ev.ai e;cases e;exact⟨r,c,h,d,_,f,i,j,q⟩
def Nz:JS G n sc N df m .cnt (.Continue pos):=λX g=>PS.of ze λQ s H q=>by
 obtain⟨r,f,h,fl,i,j,c,d,e,q⟩:=q;simp only[Ev.fR]at e;cases e;exact q s H r c d .refl
def NB{ta tb:Ss}{ya yb:List Stmt}(hc:JT G n sc N df m a xa)(h1:kC G n sc N df m ta ya)(h2:kC G n sc N df m tb yb):JS G n sc N df m (.iff a ta tb) (.If xa ya yb pos):=λX g=>PS.of (Sv (hc X g) (h1 X g) (h2 X g)) λQ s H q=>by
 obtain⟨r,d,h,fl,j,l,f,p,e,q⟩:=q;simp only[Ev.fR]at e;obtain⟨k,i,x,e⟩:=Ev.ai e;refine⟨r,d,h,k,i,f,p,x,λH1 o c f1=>?_⟩;cases k with
 |true=>exact⟨o,d,i,fl,j,l,f.mono f1,c,e,q.later f1⟩
 |false=>exact⟨o,d,i,fl,j,l,f.mono f1,c,e,q.later f1⟩
def Good.pass{X:Cx}(g:Good G n sc N df X):PassesOwn (model X.prog X.w) X.A X.env X.xe:=by
 rw[g.xe];exact PassesOwn.never
def FN(K:PySem.W.Frag)(m:List Nat)(iJ:Fl)(jV:Fr)(h4:Hh)(r1:List Addr)(H1:Hp)(s5:L2.St)(H5:Hp):Prop:=(iJ=.nx\/iJ=.ct)/\∃r5,SR K m H5 r5 jV s5/\HR K H5 r5 h4/\Fm K r1 r5 H1 H5
section
variable{K:PySem.W.Frag}{r r1 r2:List Addr}{H H1 H2:Hp}{h4 h':Hh}{fl iJ:Fl}{jV aj:Fr}{Q:Ends}
noncomputable def Bs(L:R (Fl×Fr))(p:Fl×Fr)(h1:Hh):R (Fl×Fr):=match p.1 with
 |.nx=>L
 |.ct=>L
 |.bk=>.ok (.nx,p.2) h1
 |.ret x=>.ok (.ret x,p.2) h1
def zK{L:R (Fl×Fr)}(e:Bs L (iJ,jV) h4=.ok (fl,aj) h')(z:iJ=.nx\/iJ=.ct):L=.ok (fl,aj) h':=by rcases z with rfl|rfl<;>exact e
def wA{L:R (Fl×Fr)}(e:Bs L (iJ,jV) h4=.ok (fl,aj) h')(q:Fin K m r H h' fl aj Q)(f:Fm K r r1 H H1)(f2:Fm K r1 r2 H1 H2):Fin K m r2 H2 h4 iJ jV { Q with nx:=FN K m iJ jV h4 r1 H1,ct:=FN K m iJ jV h4 r1 H1,bk:=Q.nx }:=by
 cases iJ with
 |nx=>exact λs6 H6 c C2 C3 f6=>⟨.inl rfl,c,C2,C3,f2.trans f6⟩
 |ct=>exact λs6 H6 c C2 C3 f6=>⟨.inr rfl,c,C2,C3,f2.trans f6⟩
 |bk=>
  cases e;exact λs6 H6 c C2 C3 f6=>q s6 H6 c C2 C3 ((f.trans f2).trans f6)
 |ret d=>
  cases e;exact Res.later q (f.trans f2)
noncomputable def wC(P:aS)(w:Nat)(t:T)(tb:Ss):D->Fr->Hh->R (Fl×Fr):=λd c e=>match Ev.cS t d c with
 |some f=>Ev.exs P w tb f e
 |none=>.bad
def wD(P:aS)(w:Nat)(t:T)(it:Ev.It)(tb:Ss)(fr:Fr)(h:Hh):Ev.ex P w (.for t it tb) fr h=(Ev.dj P it fr h).bind λs h1=>Ev.forL (wC P w t tb) s.2 s.1 fr h1:=by simp only[Ev.fR];rfl
def uy(f:D->Fr->Hh->R (Fl×Fr))(ck:List (Nat×List D))(d:D)(ds:List D)(fr:Fr)(h:Hh):Ev.forL f ck (d :: ds) fr h=if Ev.stays h ck then (f d fr h).bind λp h1=>Bs (Ev.forL f ck ds p.2 h1) p h1 else .bad:=rfl
def FW(K:PySem.W.Frag)(m:List Nat)(f:D->Fr->Hh->R (Fl×Fr))(src:Src)(r1:List Addr)(H1:Hp)(o:Fl×Fr)(h':Hh)(i k:Nat)(s3:L2.St)(H3:Hp):Prop:=
 k=src.1.length - i/\i<=src.1.length/\∃r3 cI h3,SR K m H3 r3 cI s3/\HR K H3 r3 h3/\Fm K r1 r3 H1 H3/\Ev.forL f src.2 (src.1.drop i) cI h3=.ok o h'
def Gd{P:aS}{w:Nat}{t:T}{tb:Ss}{src:Src}{J:L2.It}{i k:Nat}{s3:L2.St}{H3:Hp}(hJ:qM K r1 H1 src J)(q:Fin K m r H h' fl aj Q)(f1:Fm K r r1 H H1)(hW:FW K m (wC P w t tb) src r1 H1 (fl,aj) h' i k s3 H3) :
  (J.stop i H3/\Q.nx s3 H3)\/(J.go i H3/\∃N:L2.St->Hp->Prop,(∀σ' H',N σ' H'->∃m',m'<k/\FW K m (wC P w t tb) src r1 H1 (fl,aj) h' (i+1) m' σ' H')/\∀x H',J.HY i H3 x H'->gJ K m t x s3 H' λσ2 H2=>Ga K m P w tb { Q with nx:=N,ct:=N,bk:=Q.nx } σ2 H2):=by
 obtain⟨rfl,g,h,B,j,z,l,f3,c⟩:=hW;rcases Nat.lt_or_ge i src.1.length with d|o
 .rw[abH d,uy]at c;split at c
  .rename_i e;obtain⟨C,F⟩:=(hJ i H3 h j l f3 e).1 src.1[i] (QJ d);obtain⟨⟨iJ,jV⟩,h4,f,c⟩:=Ev.ai c;unfold wC at f;split at f
   .rename_i A I;exact .inr ⟨C,FN K m iJ jV h4 r1 H1,λs5 H5 ⟨p,L,C4,M,f5⟩=>⟨_,acW d (abz i),rfl,d,L,jV,h4,C4,M,f5,zK c p⟩,λx H4 y=>
     let ⟨r4,v4,UN,f4⟩:=F x H4 y
     ⟨r4,B,j,_,A,z.mono f4,UN,v4,I,λs5 C4=>⟨r4,A,j,iJ,jV,h4,C4,UN,f,wA c q f1 (f3.trans f4)⟩⟩⟩
   .cases f
  .cases c
 .have X:i=src.1.length:=Nat.le_antisymm g o;subst X;rw[acs]at c;unfold Ev.forL at c;split at c
  .rename_i e;cases c;exact .inl ⟨(hJ _ H3 h _ l f3 e).2 (aae _),q s3 H3 h z l (f1.trans f3)⟩
  .cases c
end
def C5(t:Fr->Hh->R Bool)(f:Fr->Hh->R (Fl×Fr))(n:Nat)(fr:Fr)(h:Hh):Ev.eO t f (n+1) fr h=(t fr h).bind λb h1=>if b then (f fr h1).bind λp h2=>Bs (Ev.eO t f n p.2 h2) p h2 else .ok (.nx,fr) h1:=rfl
def WW(K:PySem.W.Frag)(m:List Nat)(P:aS)(w:Nat)(a:E)(tb:Ss)(r:List Addr)(H:Hp)(o:Fl×Fr)(h':Hh)(k:Nat)(s1:L2.St)(H1:Hp):Prop:=
 ∃r1 af h1,SR K m H1 r1 af s1/\HR K H1 r1 h1/\Fm K r r1 H H1/\Ev.eO (λc d=>Ev.aN P a c d) (λc d=>Ev.exs P w tb c d) k af h1=.ok o h'
def NC{tb:Ss}{yb:List Stmt}(hc:JT G n sc N df m a xa)(h1:kC G n sc N df m tb yb):JS G n sc N df m (.qt a tb) (.While xa yb [] pos):=λX g=>PS.of (Fq g.pass (hc X g) (h1 X g)) λQ s H q=>by
 obtain⟨r,A,h,fl,B,C,I,J,e,q⟩:=q;simp only[Ev.fR]at e;refine⟨WW X.K m (Ev.run G.F G.w n) G.w a tb r H (fl,B) C,⟨_,r,A,h,I,J,.refl,e⟩,λk s1 H1 L=>?_⟩;obtain⟨M,o,h1,C1,f,f1,c⟩:=L;cases k with
 |zero=>cases c
 |succ k=>
  rw[C5]at c;obtain⟨p,x,P,c⟩:=Ev.ai c;refine⟨M,o,h1,p,x,C1,f,P,λH2 y d f2=>?_⟩;cases p with
  |false=>
   cases c;exact q s1 H2 y (C1.mono f2) d (f1.trans f2)
  |true=>
   rw[LV rfl]at c;obtain⟨⟨z,i⟩,j,W,c⟩:=Ev.ai c;exact⟨FN X.K m z i j r H,λs3 H3 ⟨l,Y,Z,jU,f3⟩=>⟨k,abz k,Y,i,j,Z,jU,f3,zK c l⟩,y,o,x,z,i,j,C1.mono f2,d,W,wA c q .refl (f1.trans f2)⟩
def ND{t:T}{it:Ev.It}{tb:Ss}{yb:List Stmt}(hi:JI G n sc N df m it tg xa)(hg:JG G n sc N df m t tg)(h1:kC G n sc N df m tb yb)(hs:autoParam (∀(env:Env) x,foldedSetIterable xa env x=pure x) zl._auto_1) :
  JS G n sc N df m (.for t it tb) (.For tg xa yb [] pos):=λX g=>PS.of (Mv g.pass g.calm (hi X g) (hg X g) (h1 X g) (hs _)) λQ s H q=>by
 obtain⟨r,d,h,fl,o,p,f,y,e,q⟩:=q;rw[wD]at e;obtain⟨src,j,z,e⟩:=Ev.ai e;exact⟨r,d,h,src,j,f,y,z,λJ H1 l c f1 A=>⟨FW X.K m (wC (Ev.run G.F G.w n) G.w t tb) src l H1 (fl,o) p,⟨src.1.length,rfl,aaU _,l,d,j,f.mono f1,c,.refl,by rw[abl];exact e⟩,λi k s3 H3 B=>Gd A q f1 B⟩⟩
end
def getElem?_range'{k j i:Nat}(h:(List.range k)[j]?=some i):i=j:=by
 obtain⟨b,a⟩:=List.getElem?_eq_some_iff.mp h;simpa using a.symm
def Ge{K:PySem.W.Frag}{H:Hp}{r:List Addr}{ds:List D}{vs:List V}{N:List Str}{fn:Ev.Fn}(v1:aH K H r ds vs)(hN:vs.length<=N.length):SR K (List.range N.length) H r (Ev.eU fn ds) (L2.start N vs):=by
 refine⟨by unfold L2.start;simp;omega,λj i d c a=>?_⟩;have e:=getElem?_range' c;subst e;unfold Ev.eU at a;by_cases b:i<ds.length
 .rw[yy (by simpa using b),aaA]at a;cases e4:ds[i]? with
  |none=>rw[e4]at a;cases a
  |some h=>
   rw[e4]at a;cases a;obtain⟨v,f,g⟩:=v1.get e4;refine⟨v,?_,g⟩;unfold L2.start;rw[yy (by have:=v1.length;simpa using (by omega:i<vs.length)),aaA,f];rfl
 .rw[aaz (by simpa using Nat.not_lt.mp b),acz]at a;split at a<;>cases a
section
variable{P:Program}{w:World}{K:PySem.W.Frag}{mg:Str->Option Value}{base:Heap}{G:Tb}
def vq(P:Program)(w:World)(K:PySem.W.Frag)(mg:Str->Option Value)(base:Heap)(G:Tb)(n:Nat):Prop:=∀(f:Nat) i,
 G.fi[f]?=some i
 ->jk P w K mg base oH n i.addr i.fd i.ps (qu K G.F G.w n f)
structure Top(P:Program)(w:World)(K:PySem.W.Frag)(mg:Str->Option Value)(G:Tb):Prop where
 fn:∀(f:Nat) i,G.fi[f]?=some i->mg i.name=some (.ref i.addr)/\PySem.W.keepIn K (.ref i.addr)=true/\Binds K i.fd i.ps []
 bl:∀x∈G.bl,mg x=none
 cs:∀x d,(x,d)∈G.cs->∃v u,mg x=some u/\RelV v u/\zJ K d v
 dk:∀x kvs,(x,kvs)∈G.dk->∃a,mg x=some (.ref a)/\∀h:Heap,K.In h->StrTab P w h a (tabOf kvs)
def Kv{f:Addr}{fd:FuncData}{ps:List Str}{k:Nat}:jk P w K mg base oH 0 f fd ps (qu K G.F G.w 0 k):=by
 have c:∀a H Q E,¬ qu K G.F G.w 0 k a H Q E:=λa H Q E h=>by
  obtain⟨r,h,ds,d,g,_,_,e,_⟩:=h;cases e
 exact⟨λa H Q E h=>absurd h (c a H Q E),λA b s H args i a Q E _ _ _ _ h=>absurd h (c a H Q E)⟩
def cK{x qual:Str}{st:Stmt}{i:FI}{N:List Str}{n f:Nat}{fn:Ev.Fn}(T:Top P w K mg G)(A0:vq P w K mg base G n)(F:v5 K x qual st i.addr i.fd)(S:bI N i.ps (aU st))(hf:G.F[f]?=some fn)(hp:i.ps.length=fn.np)
  (hb:kC G n (aU st) N true (List.range N.length) fn.body (iH st)):jk P w K mg base oH (n+1) i.addr i.fd i.ps (qu K G.F G.w (n+1) f):=by
 have a:∀c H Q E,qu K G.F G.w (n+1) f c H Q E->c.length=i.ps.length:=λc H Q E h=>by
  obtain⟨r,h,ds,d,C,l,_,e,_⟩:=h;simp only[Ev.rP,hf]at e;split at e
  .rename_i z;rw[l.length,z,hp]
  .cases e
 refine F.ok S a λo A b s H c Q E I B=>?_;have hl:=a c H Q E B;have J:c.length<=N.length:=by
  have:=aau List.length S.pre;rw[abA]at this;omega
 have g:Good G n (aU st) N true (qG oH P w K mg base N qual (aU st) i.addr o A b s H E).ua:=
  ⟨rfl,rfl,rfl,λ_ _=>rfl,I,rfl,λf i j=>⟨(T.fn f i j).1,(T.fn f i j).2.1,(T.fn f i j).2.2,A0 f i
   j
   ⟩,T.bl,T.cs,T.dk
   ⟩
 refine⟨_,hb _ g,?_⟩;obtain⟨r,h,ds,d,C,l,p,e,q⟩:=B;simp only[Ev.rP,hf]at e;split at e
 .unfold Ev.endOf at e;obtain⟨⟨fl,L⟩,M,X,e⟩:=Ev.ai e;refine⟨r,Ev.eU fn ds,h,fl,L,M,Ge l J,p,X,?_⟩;cases fl with
  |nx=>
   cases e;exact λs' H' Y _ y Z=>q _ H' Y rfl y Z
  |ret d'=>
   cases e;exact q
  |bk=>cases e
  |ct=>cases e
 .cases e
end
end Sm
namespace Sm
open PySem PySem.Spec PyProof.Rows L2 PySem.SeqAt
open Ev (D O Hh Fr R aS E Es Eo T S Ss Fl Src bV bR TY BI ME)
end Sm
namespace Sm
open PySem PySem.Spec PyProof.Rows L2
open Ev (D O Hh Fr R aS E Es Eo T S Ss Fl Src bV bR TY BI ME)
theorem tF(env:Env):∀(names:List (Str×NameKind)) (acc:List (Str×Addr)),(∀x,(x,NameKind.free)∈names->∃c,env.cells.lookup x=some c)->(∀x c,acc.lookup x=some c->env.cells.lookup x=some c)->
  ∃cl,(forIn names acc (λ(x:Str×NameKind) cs=>if (x.2==NameKind.free)=true then (do let c <-cellOf env x.1;pure (ForInStep.yield ((x.1,c) :: cs)))else pure (ForInStep.yield cs)):Sem (List (Str×Addr)))=pure cl/\
   (∀x c,cl.lookup x=some c->env.cells.lookup x=some c)/\(∀x,(x,NameKind.free)∈names->(cl.lookup x).isSome=true)/\(∀x,(acc.lookup x).isSome=true->(cl.lookup x).isSome=true)
 |[],acc,_,h2=>⟨acc,rfl,h2,(λx h=>by simp at h),λ_ h=>h⟩
 | (y,k) :: r,acc,h1,h2=>by
  by_cases f:k=.free
  .subst f;obtain⟨c,q⟩:=h1 y (aaC ..);have g:∀x b,((y,c) :: acc).lookup x=some b->env.cells.lookup x=some b:=λx b e=>by
    rw[aa5]at e;split at e
    .rename_i a;have i:x=y:=by simpa using a
     cases e;rw[i];exact q
    .exact h2 x b e
   obtain⟨cl,j,l,o,d⟩:=tF env r ((y,c) :: acc) (λx a=>h1 x (aap _ a)) g;refine⟨cl,?_,l,λx a=>?_,λx a=>d x ?_⟩
   .rw[List.forIn_cons];simp only[beq_self_eq_true,aax];unfold cellOf;rw[q];exact j
   .rcases List.mem_cons.mp a with z|z
    .cases z;exact d y (by simp[aa5])
    .exact o x z
   .rw[aa5];split
    .rfl
    .exact a
  .have p:(k==NameKind.free)=false:=by simpa using f
   obtain⟨cl,j,l,o,d⟩:=tF env r acc (λx a=>h1 x (aap _ a)) h2;refine⟨cl,?_,l,λx a=>?_,d⟩
   .rw[List.forIn_cons];simp only[p,aay,aaZ];exact j
   .rcases List.mem_cons.mp a with z|z
    .cases z;exact absurd rfl f
    .exact o x z
def Kw{scope:Scope}{env:Env}(h:∀x,(x,NameKind.free)∈scope.names->∃c,env.cells.lookup x=some c) :
  ∃cl,closureFor scope env=pure cl/\(∀x c,cl.lookup x=some c->env.cells.lookup x=some c)/\∀x,(x,NameKind.free)∈scope.names->∃c,cl.lookup x=some c:=by
 obtain⟨cl,b,d,f,_⟩:=tF env scope.names [] h (λx c e=>by simp at e);refine⟨cl,?_,d,λx g=>Option.isSome_iff_exists.mp (f x g)⟩;unfold closureFor;show(forIn scope.names [] _ >>= λa=>pure a:Sem (List (Str×Addr)))=pure cl;have e:(forIn scope.names [] (λ(x:Str×NameKind) a=>if (x.2==NameKind.free)=true then (do let c <-cellOf env x.1;pure (ForInStep.yield ((x.1,c) :: a)))else pure (ForInStep.yield a)):Sem (List (Str×Addr)))=pure cl:=b;exact aau (λt:Sem (List (Str×Addr))=>t >>= λa=>pure a) e
noncomputable def fK(sc scope:Scope):Scope:={ scope with names:=scope.names.map λ(n,k)=>if (k==.free&&sc.kind==.function&&sc.names.lookup n==some .cell)then (n,.cell)else (n,k)}
def tG{env:Env}{sc scope:Scope}(h:env.scope=sc):relabel scope env=fK sc scope:=by
 subst h;rfl
theorem uA{sc:Scope}:∀{names:List (Str×NameKind)}{x:Str},(∀y∈names,y.2≠.cell)->
  ((names.map λ(n,k)=>if (k==NameKind.free&&sc.kind==.function&&sc.names.lookup n==some .cell)then (n,NameKind.cell)else (n,k)).lookup x=some .cell\/
   (names.map λ(n,k)=>if (k==NameKind.free&&sc.kind==.function&&sc.names.lookup n==some .cell)then (n,NameKind.cell)else (n,k)).lookup x=some .free)->(x,NameKind.free)∈names
 |[],_,_,h=>by rcases h with h|h<;>simp at h
 | (n,k) :: r,x,hc,h=>by
  have i:=@uA sc r x λy j=>hc y (aap _ j);simp only[aai]at h;have d:∀(a:NameKind),(if (k==NameKind.free&&sc.kind==.function&&sc.names.lookup n==some .cell)then (n,NameKind.cell)else (n,k))=(n,a)->a=.cell\/a=.free->k=.free:=λa e b=>by
   split at e
   .rename_i z;simp only[W2,beq_iff_eq]at z;exact z.1.1
   .cases e;rcases b with z|z
    .exact absurd z (hc (n,_) (aaC ..))
    .exact z
  generalize hg:(if (k==NameKind.free&&sc.kind==.function&&sc.names.lookup n==some .cell)then (n,NameKind.cell)else (n,k))=p at h d
  have f:p.1=n:=by rw[<-hg];split<;>rfl
  obtain⟨g,l⟩:=p;simp only at f;subst f;simp only[aa5]at h;cases hx:(x==g)with
  |true=>
   have c:x=g:=by simpa using hx
   rw[hx]at h;have:=d l rfl (by rcases h with h|h<;>simp at h<;>simp[h]);subst this;rw[c];exact aaC ..
  |false=>
   rw[hx]at h;exact aap _ (i h)
section
variable{prog:Program}{w:World}{A:Around}{R':Result->Shared->Prop}{s:Shared}
abbrev gp:Value->Shared->Prop:=λ_ _=>False
noncomputable def zM(ifs:List Expr)(env:Env):Sem Bool:=forIn ifs true λc r=>if r=true then do let ok <-isTrue c env (eval c env);pure (ForInStep.yield ok)else pure (ForInStep.yield r)
def wF{elt target iter:Expr}{ifs:List Expr}{scope:Scope}{pos:Pos}{it acc:Value}{env:Env}(I:Nat->Shared->Prop)
  (turn:∀n s,I n s->wpAny (model prog w) A (pyNext it) (λr s₁=>match r with
   |none=>R' (.ok .next) s₁
   |some v=>wpAny (model prog w) A (letOwnedTupleGo target it v) (λ_ s₂=>wpAny (model prog w) A (assign target env v) (λ_ s₃=>
     wpAny (model prog w) A (zM ifs env) (λok s₄=>
      if ok=true then wpAny (model prog w) A (eval elt env) (λx s₅=>
       wpAny (model prog w) A (call (.builtin "list.append") [acc,x]) (λ_ s₆=>∃m,m<n/\I m s₆) gp s₅) gp s₄
      else ∃m,m<n/\I m s₄) gp s₃) gp s₂) gp s₁) gp s)
  (n:Nat) (h:I n s):codeAny (model prog w) A (.compLoop (.ListComp elt [⟨target,iter,ifs,0⟩] scope pos) 0 it acc env) R' s:=by
 refine codeAny_loop rfl I (λn s d=>?_) n h;show wpAny _ A ((compTurn (.ListComp elt [⟨target,iter,ifs,0⟩] scope pos) 0 it acc env).onRaise (λx=>do noteFrame x env;theTreesLotGoes x)) _ _ s;refine wpAny_noted ?_;rw[compTurn_list];refine gV (wpAny_standAt (gV (aa6 (turn n s d) (λr s₁ b=>?_) λ_ _ a=>a.elim)));cases r with
 |none=>exact aaf b
 |some v=>
  refine gV (aa6 b (λ_ s₂ e=>?_) λ_ _ a=>a.elim);refine gV (aa6 e (λ_ s₃ f=>gV (aa6 f (λok s₄ c=>?_) λ_ _ a=>a.elim)) λ_ _ a=>a.elim);cases ok with
  |false=>exact aaf ⟨rfl,c⟩
  |true=>
   exact gV (gV (aa6 c (λx s₅ g=>gV (aa6 g (λ_ s₆ i=>aaf (aaf ⟨rfl,i⟩)) λ_ _ a=>a.elim)) λ_ _ a=>a.elim))
end
inductive UO(K:PySem.W.Frag)(m:List Nat)(P:aS)(e:Eo)(s:L2.St)(H:Hp)(Q:Bool->Hp->Prop):Prop
 |mk (r:List Addr) (fr:Fr) (h:Hh) (k:Bool) (h':Hh) (c0:SR K m H r fr s) (c1:HR K H r h) (c2:Ev.iT P e fr h=.ok k h') (c3:∀H' r',HR K H' r' h'->Fm K r r' H H'->Q k H'):UO K m P e s H Q
def JC(G:Tb)(n:Nat)(sc:Scope)(N:List Str)(df:Bool)(m:List Nat)(e:Eo)(ifs:List Expr):Prop:=∀X,Good G n sc N df X->∀(pins:List (Addr×Obj)) (s:Shared) (σ:L2.St) (H:Hp) (Q:Bool->Hp->Prop),Inv X pins σ H s->
 UO X.K m (Ev.run G.F G.w n) e σ H Q->wpAny (model X.prog X.w) X.A (zM ifs X.env) (TP X pins σ Q) X.xe s
section
variable{G:Tb}{n:Nat}{sc:Scope}{N:List Str}{df:Bool}{m:List Nat}{a:E}{xa:Expr}
def Te:JC G n sc N df m .no []:=λX g pins s σ H Q I q=>by
 obtain⟨r,c,h,k,d,f,b,e,q⟩:=q;simp only[Ev.iT]at e;cases e;exact aaf ⟨H,I,q H r b .refl⟩
def NF(hc:JT G n sc N df m a xa):JC G n sc N df m (.yes a) [xa]:=λX g pins s σ H Q I q=>by
 obtain⟨r,b,h,k,c,d,f,e,q⟩:=q;simp only[Ev.iT]at e;exact wpAny_tests_one (hc X g pins s σ H Q I ⟨r,b,h,k,c,d,f,e,q⟩)
end
noncomputable def rR(X:Cx)(N':List Str)(scope:Scope)(cl:List (Str×Addr))(C:Addr)(s3:Shared)(H3:Hp)(fp:List Addr):Cx:=
 { X with N:=N',s₀:=s3,H₀:=H3,env:=compEnvC scope cl C X.env,outer:=X.stack,stack:=X.stack,ex:=fp,fn:=λ_=>false,pn:=[],xe:=λ_ _=>False }
def namesOk(sc:Scope)(N:List Str)(m:List Nat)(scope:Scope)(t:T)(N':List Str)(m':List Nat):Prop:=m'.length=N'.length/\
 ∀(j:Nat) x i,N'[j]?=some x->m'[j]?=some i->i∈Ev.slots t\/((x,NameKind.free)∈scope.names/\∃jo:Nat,N[jo]?=some x/\m[jo]?=some i)
noncomputable def rS(sc:Scope)(N:List Str)(m:List Nat)(scope:Scope)(t:T)(N':List Str)(m':List Nat):Bool:=m'.length==N'.length&&
 (List.range N'.length).all λj=>match N'[j]?,m'[j]? with
  |some x,some i=>(Ev.slots t).contains i || (scope.names.contains (x,NameKind.free)&&(List.range N.length).any λa=>N[a]?==some x&&m[a]?==some i)
  |_,_=>true
def namesOk.of{sc:Scope}{N:List Str}{m:List Nat}{scope:Scope}{t:T}{N':List Str}{m':List Nat}(h:rS sc N m scope t N' m'=true):namesOk sc N m scope t N' m':=by
 unfold rS at h;rw[W2]at h;refine⟨by simpa using h.1,λj x i a c=>?_⟩;have d:j<N'.length:=(List.getElem?_eq_some_iff.mp a).1;have q:=List.all_eq_true.mp h.2 j (List.mem_range.mpr d);rw[a,c]at q;simp only[aaR,W2,List.any_eq_true]at q;rcases q with q|⟨e,f,_,b⟩
 .exact .inl (by simpa using q)
 .exact .inr ⟨by simpa using e,f,by simpa using b.1,by simpa using b.2⟩
def zj{t:T}{d:D}{fr aq:Fr}(e:Ev.cS t d fr=some aq){i:Nat}(hi:i∉Ev.slots t):aq[i]?=fr[i]?:=by
 have go:∀(l:List Nat) (ds:List D) (fr aq:Fr),Ev.di l ds fr=some aq->i∉l->aq[i]?=fr[i]?:=by
  intro l;induction l with
  |nil=>
   intro ds fr aq e _;cases ds with
   |nil=>cases e;rfl
   |cons _ _=>cases e
  |cons j l b=>
   intro ds fr aq e a;cases ds with
   |nil=>cases e
   |cons d ds=>
    rw[b ds _ _ e λz=>a (aap _ z),Uk];intro z;exact a (by rw[z];exact aaC ..)
 cases t with
 |one j=>
  cases e;rw[Uk];intro z;exact hi (by simp[Ev.slots,z])
 |many l=>
  cases d with
  |tup ds=>exact go l ds fr aq e hi
  |_=>cases e
def SR.unbind{K:PySem.W.Frag}{m:List Nat}{H:Hp}{r:List Addr}{t:T}{d:D}{fr aq:Fr}{s:L2.St}(sr:SR K m H r aq s)(e:Ev.cS t d fr=some aq)(hu:Ev.undef t fr=true):SR K m H r fr s:=by
 refine⟨sr.len,λj i b c a=>sr.sl j i b c ?_⟩;rw[zj e]
 .exact a
 .intro f;have q:=List.all_eq_true.mp hu i f;rw[a]at q;cases q
structure lU(sc scope:Scope):Prop where
 kind:scope.kind=.function
 C6:∀y∈scope.names,y.2≠.cell
 free:∀x,(x,NameKind.free)∈scope.names->(sc.names.lookup x=some .cell\/sc.names.lookup x=some .free)/\scope.names.lookup x=some .free
 loc:∀y∈scope.names,y.2=.local->scope.names.lookup y.1=some .local
noncomputable def Ii(sc scope:Scope):Bool:=scope.kind==.function&&scope.names.all λy=>y.2 != .cell&&(y.2 != .free || ((sc.names.lookup y.1==some .cell ||sc.names.lookup y.1==some .free)&&scope.names.lookup y.1==some .free))&&(y.2 != .local ||scope.names.lookup y.1==some .local)
def lU.of{sc scope:Scope}(h:Ii sc scope=true):lU sc scope:=by
 unfold Ii at h;rw[W2]at h;have q:∀y∈scope.names,y.2≠.cell/\(y.2=.free->(sc.names.lookup y.1=some .cell\/sc.names.lookup y.1=some .free)/\scope.names.lookup y.1=some .free)/\(y.2=.local->scope.names.lookup y.1=some .local):=λy a=>by
  have z:=List.all_eq_true.mp h.2 y a;simp only[W2,aaR,bne_iff_ne,beq_iff_eq,ne_eq]at z;refine⟨z.1.1,λe=>?_,λe=>?_⟩
  .rcases z.1.2 with w|w
   .exact absurd e w
   .exact w
  .rcases z.2 with w|w
   .exact absurd e w
   .exact w
 exact⟨by simpa using h.1,λy a=>(q y a).1,λx b=>(q _ b).2.1 rfl,λy a=>(q y a).2.2⟩
theorem uB{sc:Scope}:∀{names:List (Str×NameKind)}{x:Str},names.lookup x=some .free->
  ((names.map λ(n,k)=>if (k==NameKind.free&&sc.kind==.function&&sc.names.lookup n==some .cell)then (n,NameKind.cell)else (n,k)).lookup x=some .cell\/
   (names.map λ(n,k)=>if (k==NameKind.free&&sc.kind==.function&&sc.names.lookup n==some .cell)then (n,NameKind.cell)else (n,k)).lookup x=some .free)
 |[],_,h=>by simp at h
 | (n,k) :: r,x,h=>by
  have a:=@uB sc r x;simp only[aai];simp only[aa5]at h;by_cases b:(k==NameKind.free&&sc.kind==.function&&sc.names.lookup n==some .cell)=true
  .rw[LV b];simp only[aa5];cases hx:(x==n)with
   |true=>exact .inl rfl
   |false=>rw[hx]at h;exact a h
  .rw[aaj b];simp only[aa5];cases hx:(x==n)with
   |true=>rw[hx]at h;exact .inr h
   |false=>rw[hx]at h;exact a h
section
variable{G:Tb}{n:Nat}{sc scope:Scope}{N N':List Str}{df:Bool}{m m':List Nat}{t:T}{X:Cx}
def Good.comp(g:Good G n sc N df X){cl:List (Str×Addr)}{C:Addr}{s3:Shared}{H3:Hp}{fp:List Addr}:Good G n (fK sc scope) N' false (rR X N' scope cl C s3 H3 fp):=
 ⟨rfl,tG g.sc,g.calm,(λh=>by cases h),g.room,rfl,g.fn,g.bl,g.cs,g.dk
 ⟩
def Kz{pins:List (Addr×Obj)}{σ:L2.St}{H3:Hp}{s3:Shared}(g:Good G n sc N df X)(I:Inv X pins σ H3 s3)(hs:lU sc scope){cl:List (Str×Addr)}(iV:∀x c,cl.lookup x=some c->X.env.cells.lookup x=some c)
  (lV:∀x,(x,NameKind.free)∈scope.names->∃c,cl.lookup x=some c) {fp:List Addr} (hfp:∀b∈fp,iR X pins H3 b) (hfl:∀b∈fp,b<s3.heap.objs.size):(rR X N' scope cl s3.heap.objs.size s3 H3 fp).Ok where
 mod:=I.ok.mod
 kind:=hs.kind
 glob:=I.ok.glob
 blt:=I.ok.blt
 above:=aae _
 inj:=λx y c d f=>I.ok.inj x y c (iV x c d) (iV y c f)
 has:=λx h=>by
  have i:(fK sc scope).names.lookup x=some .cell\/(fK sc scope).names.lookup x=some .free:=by
   rw[<-tG (scope:=scope) g.sc];exact h
  exact lV x (uA hs.C6 i)
 zw:=λx c h=>by cases h
 hd:=I.ok.hd
 frames:=I.ok.frames
 stk:=.inl rfl
 HS:=λb a=>⟨aaB (hfl b a),λx c e=>(hfp b a).2.2.2.2.1 x c (iV x c e)⟩
 bs:=I.bs
 t7:=aas I.ok.t7 I.sz
 sW:=λb o e a=>by
  rcases(hfp b a).2.2.2.1 with z|z
  .exact I.ok.sW b o e z
  .have:=aan (I.ok.bs b o e).1;exact absurd (aaa this z) (aaF _)
 sX:=λb a z=>by
  rcases List.mem_cons.mp (I.vO b z)with q|q
  .exact(hfp b a).2.1 q
  .exact(hfp b a).2.2.1 q
 jN:=I.stack
 vM:=I.zx
open Classical in
noncomputable def sig(scope:Scope)(N N':List Str)(m':List Nat)(K:PySem.W.Frag)(H:Hp)(r:List Addr)(fr:Fr)(σ:L2.St):L2.St:=
 (List.range N'.length).map λj=>if h:∃v,∃x i,N'[j]?=some x/\m'[j]?=some i/\(x,NameKind.free)∈scope.names/\(∃jo:Nat,N[jo]?=some x/\σ[jo]?=some (some v))/\∀d,fr[i]?=some (some d)->RV K H r d v then some h.choose else none
def NG{K:PySem.W.Frag}{H:Hp}{r:List Addr}{fr:Fr}{σ:L2.St}{j:Nat}{v:V}(h:(sig scope N N' m' K H r fr σ)[j]?=some (some v)) :
  ∃x i,N'[j]?=some x/\m'[j]?=some i/\(x,NameKind.free)∈scope.names/\(∃jo:Nat,N[jo]?=some x/\σ[jo]?=some (some v))/\∀d,fr[i]?=some (some d)->RV K H r d v:=by
 unfold sig at h;rw[aaA]at h;cases e:(List.range N'.length)[j]? with
 |none=>rw[e]at h;cases h
 |some b=>
  have:=getElem?_range' e;subst this;rw[e]at h;simp only[Option.map_some,abS]at h;split at h
  .rename_i a;cases h;exact a.choose_spec
  .cases h
def NH{K:PySem.W.Frag}{H:Hp}{r:List Addr}{fr:Fr}{σ:L2.St}(sr:SR K m H r fr σ)(hn:namesOk sc N m scope t N' m')(hu:Ev.undef t fr=true):SR K m' H r fr (sig scope N N' m' K H r fr σ):=by
 refine⟨by unfold sig;simp[hn.1],λj i d b c=>?_⟩;have e:j<N'.length:=by rw[<-hn.1];exact(List.getElem?_eq_some_iff.mp b).1
 have f:N'[j]?=some N'[j]:=QJ e;rcases hn.2 j _ i f b with l|⟨o,a,p,y⟩
 .exfalso;have q:=List.all_eq_true.mp hu i l;rw[c]at q;cases q
 .obtain⟨v,z,A⟩:=sr.sl a i d y c;have ex:∃v,∃x i,N'[j]?=some x/\m'[j]?=some i/\(x,NameKind.free)∈scope.names/\(∃a:Nat,N[a]?=some x/\σ[a]?=some (some v))/\∀d,fr[i]?=some (some d)->RV K H r d v:=
   ⟨v,N'[j],i,f,b,o,⟨a,p,z⟩,λC g=>by rw[c]at g;cases g;exact A⟩
  refine⟨ex.choose,?_,?_⟩
  .unfold sig;rw[aaA,abo e];simp only[Option.map_some];rw[dif_pos ex]
  .obtain⟨F,I,J,h,L,M,B⟩:=ex.choose_spec;rw[b]at h;cases h;exact B d c
def Gf{pins:List (Addr×Obj)}{σ:L2.St}{H3:Hp}{s3:Shared}(g:Good G n sc N df X)(I:Inv X pins σ H3 s3)(hs:lU sc scope){cl:List (Str×Addr)}(iV:∀x c,cl.lookup x=some c->X.env.cells.lookup x=some c)
  (lV:∀x,(x,NameKind.free)∈scope.names->∃c,cl.lookup x=some c) {fp:List Addr} (hfp:∀b∈fp,iR X pins H3 b) (hfl:∀b∈fp,b<s3.heap.objs.size) {h1:Heap} {tk:Nat} {mm:Str->Option Value}
  (hns:h1.Ns s3.heap.objs.size mm) (hk:∀b o,s3.heap.get? b=some o->h1.get? b=some o) {r:List Addr} {fr:Fr} :
  Inv (rR X N' scope cl s3.heap.objs.size s3 H3 fp) [] (sig scope N N' m' X.K H3 r fr σ) H3 { s3 with heap:=h1,toks:=tk }:=by
 refine⟨Kz g I hs iV lV hfp hfl,rfl,I.bare,Un.kept hk,⟨mm,hns,λj x v B C W=>?_⟩,λx c e=>?_,I.hok.fresh (aae _),λx c e=>I.iQ x c (iV x c e),(λp F=>by simp[rR]at F),I.hok.kept hk,(by unfold sig;simp[rR])⟩
 .obtain⟨Y,i,y,Z,A,⟨H,J,L⟩,_⟩:=NG C;have XD:N'[j]?=some x:=B;rw[XD]at y;cases y;obtain⟨f1,f2⟩:=hs.free x A;obtain⟨mO,Zf,XE⟩:=I.loc;obtain⟨u,M,P⟩:=XE H x v (by rw[g.nm];exact J) L (by rw[g.sc];rcases f1 with z|z<;>simp[Cu,z]);refine⟨u,M,?_⟩;have f:X.env.kindOf x=some .cell\/X.env.kindOf x=some .free:=by unfold Env.kindOf;rw[g.sc];exact f1
  rcases P with ⟨z,_⟩|⟨_,c,Q,a⟩
  .rcases f with w|w <;> (rw[z]at w;cases w)
  .obtain⟨h,d⟩:=lV x A;have:h=c:=by
    have:=iV x h d;rw[Q]at this;cases this;rfl
   subst this;refine .inr ⟨?_,h,d,?_⟩
   .show(relabel scope X.env).names.lookup x=some .cell\/(relabel scope X.env).names.lookup x=some .free;rw[tG (scope:=scope) g.sc];exact uB f2
   .obtain⟨o,l,q⟩:=a;exact⟨o,hk _ _ l,q⟩
 .obtain⟨v,o,l,q⟩:=I.cell x c (iV x c e);exact⟨v,o,hk _ _ l,q⟩
end
section
variable{G:Tb}{n:Nat}{sc scope:Scope}{N N':List Str}{df:Bool}{m m':List Nat}{elt:E}{t:T}{it:Ev.It}{cond:Eo}{xe xi tg:Expr}{ifs:List Expr}{pos:Pos}{X:Cx}
noncomputable def Bt(P:aS)(elt:E)(t:T)(cond:Eo)(fr:Fr):D->Hh->R (Option D):=λd c=>match Ev.cS t d fr with
 |none=>.bad
 |some a=>(Ev.iT P cond a c).bind λk b=>if k then (Ev.ev P elt a b).bind λx e=>.ok (some x) e else .ok none b
def tK(P:aS)(elt:E)(t:T)(it:Ev.It)(cond:Eo)(fr:Fr)(h:Hh):Ev.ev P (.comp elt t it cond) fr h=(Ev.dj P it fr h).bind λs h1=>if Ev.undef t fr then
  (Ev.cZ (Bt P elt t cond fr) s.2 s.1 h1).bind λds h2=>Ev.alloc ds h2 else .bad:=by
 simp only[Ev.ev];rfl
inductive CI(Y:Cx)(m':List Nat)(f:D->Hh->R (Option D))(fr:Fr)(src:Src)(fp:List Addr)(tn:Nat->Heap->Prop)(r2:List Addr)(H2:Hp)(Dd:Addr)(ds:List D)(h2:Hh)(k:Nat)(s:Shared):Prop
 |mk (i:Nat) (qv:L2.St) (Hc:Hp) (rc:List Addr) (hc:Hh) (dn:List D) (vs:List V) (rest:List D) (c0:Inv Y [] qv Hc s) (c1:tn i s.heap) (c2:∀b∈fp,Hc b=none) (c3:k=src.1.length - i) (c4:i<=src.1.length) (c5:SR Y.K m' Hc rc fr qv) (c6:HR Y.K Hc rc hc) (c7:Fm Y.K r2 rc H2 Hc) (c8:Hc Dd=some (.lst vs)) (c9:Dd∉rc) (d0:aH Y.K Hc rc dn vs) (d1:Ev.cZ f src.2 (src.1.drop i) hc=.ok rest h2) (d2:dn++rest=ds):CI Y m' f fr src fp tn r2 H2 Dd ds h2 k s
section
variable{Y:Cx}{sc':Scope}{J:L2.It}{fp:List Addr}{ita:Addr}{tn:Nat->Heap->Prop}{fr:Fr}{src:Src}{r2:List Addr}{H2:Hp}{Dd:Addr}{ds:List D}{h2:Hh}
def Bu(gC:Good G n sc' N' false Y){α:Type}{tt:Sem α}{Q:α->Shared->Prop}{s:Shared}(hw:wpAny (model Y.prog Y.w) Y.A tt Q Y.xe s):wpAny (model Y.prog Y.w) Y.A tt Q gp s:=by rw[gC.xe]at hw;exact hw
def zN{i:Nat}{nT:L2.St}{H9:Hp}{r9:List Addr}{h9:Hh}{dn:List D}{vs:List V}{rest':List D}{s9:Shared}{p:List (Addr×Obj)}{f:D->Hh->R (Option D)}(hlt:i<src.1.length)(I9:Inv Y ([]++p) nT H9 s9)(bk:tn (i+1) s9.heap/\∀b∈fp,H9 b=none)(q:SR Y.K m' H9 r9 fr nT)(uC:HR Y.K H9 r9 h9)(fm:Fm Y.K r2 r9 H2 H9)(Bv:H9 Dd=some (.lst vs))(Bw:Dd∉r9)(rv:aH Y.K H9 r9 dn vs)(e7:Ev.cZ f src.2 (src.1.drop (i+1)) h9=.ok rest' h2)(ed:dn++rest'=ds) :
  ∃k,k<src.1.length - i/\CI Y m' f fr src fp tn r2 H2 Dd ds h2 k s9:=
 ⟨src.1.length - (i+1),acW hlt (abz i),i+1,nT,H9,r9,h9,dn,vs,rest',I9.mX,bk.1,bk.2,rfl,hlt,q,uC,fm,Bv,Bw,rv,e7,ed⟩
def NI{i:Nat}{nT:L2.St}{H9:Hp}{r9:List Addr}{h9:Hh}{dn:List D}{vs:List V}{xd:D}{v10:V}{Ij:Value}{rest':List D}{s9:Shared}{p:List (Addr×Obj)}{f:D->Hh->R (Option D)}(hlt:i<src.1.length)(kW:H2 Dd=none)(hsz:ds.length<=sizeLine)(gC:Good G n sc' N' false Y)(I9:Inv Y ([]++p) nT H9 s9)(Gg:RelV v10 Ij)(bk:∀{σ':L2.St}{H':Hp}{s':Shared},Inv Y ([]++p) σ' H' s'->tn (i+1) s'.heap/\∀b∈fp,H' b=none)(q:SR Y.K m' H9 r9 fr nT)(uC:HR Y.K H9 r9 h9)(fm:Fm Y.K r2 r9 H2 H9)(qw:H9 Dd=some (.lst vs))(wG:Dd∉r9)(rv:aH Y.K H9 r9 dn vs)(Gh:RV Y.K H9 r9 xd v10)(e7:Ev.cZ f src.2 (src.1.drop (i+1)) h9=.ok rest' h2)(ed:dn++xd :: rest'=ds) :
  wpAny (model Y.prog Y.w) Y.A (call (.builtin "list.append") [.ref Dd,Ij]) (λ_ Ik=>∃k,k<src.1.length - i/\CI Y m' f fr src fp tn r2 H2 Dd ds h2 k Ik) gp s9:=by
 have a:vs.length<sizeLine:=by
  have o:=rv.length;have h2:=aau List.length ed;simp at h2;omega
 refine bQ (Bu gC (um _ s9 nT H9 (.ref Dd) [v10] (.ref Dd) [Ij] (λ_ UP=>UP=upd H9 Dd (.lst (vs++[v10]))) I9 rfl (.cons Gg .nil) ⟨Dd,vs,v10,rfl,rfl,qw,a,rfl⟩)) λ_ Ik zr=>?_;obtain⟨_,UP,UQ,_,WB⟩:=zr;subst WB;refine zN (dn:=dn++[xd]) (vs:=vs++[v10]) hlt UQ (bk UQ) ?_ (uC.other qw wG) (fm.other kW qw) dZ wG ?_ e7 ?_
 .exact⟨q.len,λj c d e g=>by
   obtain⟨w,h,l⟩:=q.sl j c d e g;exact⟨w,h,l.grow (λ_ _ z=>z) (gK qw)⟩⟩
 .exact(rv.append (.cons Gh .nil)).grow (λ_ _ z=>z) (gK qw)
 .rw[<-ed];simp
def C7(gC:Good G n sc' N' false Y)(hg:JG G n sc' N' false m' t tg)(hc:JC G n sc' N' false m' cond ifs)(he:JE G n sc' N' false m' elt xe)(Tn:Turn Y.prog Y.w Y.K tg J fp ita tn)(mY:∀{Hc:Hp},(∀b∈fp,Hc b=none)->∀b∈fp,iR Y [] Hc b)
  (hu:Ev.undef t fr=true) (hJ:qM Y.K r2 H2 src J) (kW:H2 Dd=none) (hsz:ds.length<=sizeLine) {R':Result->Shared->Prop}
  (WC:∀s6 qv Hc rc vs,Inv Y [] qv Hc s6->HR Y.K Hc rc h2->Fm Y.K r2 rc H2 Hc->Hc Dd=some (.lst vs)->Dd∉rc->aH Y.K Hc rc ds vs->R' (.ok .next) s6) {k:Nat} {s:Shared}
  (h:CI Y m' (Bt (Ev.run G.F G.w n) elt t cond fr) fr src fp tn r2 H2 Dd ds h2 k s):codeAny (model Y.prog Y.w) Y.A (.compLoop (.ListComp xe [⟨tg,xi,ifs,0⟩] scope pos) 0 (.ref ita) (.ref Dd) Y.env) R' s:=by
 refine wF (CI Y m' (Bt (Ev.run G.F G.w n) elt t cond fr) fr src fp tn r2 H2 Dd ds h2) ?_ k h;rintro k s5 ⟨i,qv,Hc,rc,hc',dn,vs,rest,I5,zA,rC,rfl,hle,C4,uz,wH,qw,wG,C8,a,Il⟩;rcases Nat.lt_or_ge i src.1.length with d|L
 .rw[abH d]at a;simp only[Ev.cZ]at a;split at a
  .rename_i g;obtain⟨M,_⟩:=hJ i Hc rc hc' uz wH g;obtain⟨g1,g2⟩:=M src.1[i] (QJ d);obtain⟨o,h6,c,a⟩:=Ev.ai a;obtain⟨P,h7,e7,a⟩:=Ev.ai a;cases a;refine bQ (Tn.item Y rfl rfl rfl gC.calm i [] s5 qv Hc gp I5 (mY rC) zA g1) λrr s6 zr=>?_;obtain⟨u,XF,h8⟩:=zr;subst XF;refine bQ h8 λ_ s7 zr=>?_;obtain⟨x,H7,I7,rx,y7,NJ,XG⟩:=zr;obtain⟨y,v7,UR,l⟩:=g2 x H7 y7;obtain⟨WD,WE⟩:=l.m8 qw wG;unfold Bt at c;split at c
   .cases c
   .rename_i z Q;obtain⟨kk,W,e9,c⟩:=Ev.ai c;have XH:=I7.pinned (mY XG) (Tn.obj _ _ NJ);refine bQ (Bu gC (hg _ gC _ s7 qv H7 x u (λB H8=>H8=H7/\SR Y.K m' H7 y z B) XH rx ⟨y,fr,hc',_,z,C4.mono l,UR,v7,Q,λC q=>⟨rfl,q⟩⟩)) λ_ s8 zr=>?_;obtain⟨B,H8,I8,XI,Im⟩:=zr;subst XI;refine bQ (Bu gC (hc _ gC _ s8 B _ (λb H9=>b=kk/\∃j,HR Y.K H9 j W/\Fm Y.K y j _ H9) I8 ⟨y,z,hc',kk,W,Im,UR,e9,λH9 j H f9=>⟨rfl,j,H,f9⟩⟩)) λbb s9 zr=>?_;obtain⟨H9,I9,MW,j,H,f⟩:=zr;subst MW;obtain⟨Bw,Bv⟩:=f.m8 WE WD;have back:∀{σ':L2.St} {H':Hp} {C:Shared},Inv Y ([]++oB fp s7.heap) σ' H' C->tn (i+1) C.heap/\∀b∈fp,H' b=none:=λ{σ' H' C} I'=>
     ⟨Tn.keep _ _ _ NJ λb I o e=>(I'.pin (b,o) (aaE _ (aaE _ (jX I e)))).1,λb I=>
      let ⟨o,e,_⟩:=Tn.obj _ _ NJ b I
      (I'.pin (b,o) (aaE _ (aaE _ (jX I e)))).2.1⟩
    cases bb with
    |false=>
     simp only[aay,aaZ]at c ⊢;cases c;exact zN d I9 (back I9) ((Im.mono f).unbind Q hu) H ((wH.trans l).trans f) Bv Bw ((C8.mono l).mono f) e7 Il
    |true=>
     simp only[aax]at c ⊢;obtain⟨xd,Zg,kD,c⟩:=Ev.ai c;cases c;refine bQ (Bu gC (he _ gC _ s9 B H9 (λv C9=>∃p,RV Y.K C9 p xd v/\HR Y.K C9 p _/\Fm Y.K j p H9 C9) I9 ⟨j,z,W,xd,_,Im.mono f,H,kD,λv C9 p r Gi Dc=>⟨p,r,Gi,Dc⟩⟩)) λIj US zr=>?_;obtain⟨r,C9,XJ,Gg,p,Gh,Gi,Bx⟩:=zr;obtain⟨Tf,Tg⟩:=Bx.m8 Bv Bw;exact NI d kW hsz gC XJ Gg back (((Im.mono f).mono Bx).unbind Q hu) Gi (((wH.trans l).trans f).trans Bx) Tg Tf (((C8.mono l).mono f).mono Bx) Gh e7 Il
  .cases a
 .have Z:i=src.1.length:=Nat.le_antisymm hle L;subst Z;rw[acs]at a;simp only[Ev.cZ]at a;split at a
  .rename_i g;cases a;refine bQ (Tn.done Y rfl rfl rfl gC.calm _ [] s5 qv Hc gp I5 (mY rC) zA ((hJ _ Hc rc _ uz wH g).2 (aae _))) λrr s6 zr=>?_;obtain⟨hrr,I6⟩:=zr;subst hrr;rw[aaD]at Il;subst Il;exact WC s6 qv Hc rc vs I6 uz wH qw wG C8
  .cases a
end
def uE(g:Good G n sc N df X)(hi:JI G n sc N df m it tg xi)(hg:JG G n (fK sc scope) N' false m' t tg)(hc:JC G n (fK sc scope) N' false m' cond ifs)(he:JE G n (fK sc scope) N' false m' elt xe)
  (hn:namesOk sc N m scope t N' m') (hs:lU sc scope) {cl:List (Str×Addr)} (iV:∀x c,cl.lookup x=some c->X.env.cells.lookup x=some c) (lV:∀x,(x,NameKind.free)∈scope.names->∃c,cl.lookup x=some c)
  {pins:List (Addr×Obj)} {σ:L2.St} {H:Hp} {s:Shared} (I:Inv X pins σ H s) {r:List Addr} {fr:Fr} {h:Hh} {d:D} {h':Hh} (sr:SR X.K m H r fr σ) (hr:HR X.K H r h)
  (e:Ev.ev (Ev.run G.F G.w n) (.comp elt t it cond) fr h=.ok d h') (post:Value->Addr->Result->Shared->Prop)
  (hpost:∀Dd C s' H' r',Inv X pins σ H' s'->(∃mm,s'.heap.Ns C mm)->iR X pins H' C->RV X.K H' r' d (.ref Dd)->HR X.K H' r' h'->Fm X.K r r' H H'->post (.ref Dd) C (.ok .next) s') {E:Value->Shared->Prop} (hE:X.xe=λ_ _=>False) :
  wpAny (model X.prog X.w) X.A (eval xi X.env) (λx s₁=>wpAny (model X.prog X.w) X.A (pyIter x) (λitv s₂=>wpAny (model X.prog X.w) X.A (newList []) (λacc s₃=>
   wpAny (model X.prog X.w) X.A (newFunctionEnv scope X.env.globals cl [] X.env.qual none .none (some X.env)) (λcenv s₄=>
    codeAny (model X.prog X.w) X.A (.compStart (.ListComp xe [⟨tg,xi,ifs,0⟩] scope pos) 0 itv acc { cenv with scope:=relabel scope X.env }) (post acc cenv.locals) s₄) E s₃) E s₂) E s₁) E s:=by
 rw[tK]at e;obtain⟨src,Y,e1,e⟩:=Ev.ai e;split at e
 .rename_i hu;obtain⟨ds,h2,e2,e⟩:=Ev.ai e;have ua:∀{α:Type} {tt:Sem α} {Q:α->Shared->Prop} {s:Shared},wpAny (model X.prog X.w) X.A tt Q X.xe s->wpAny (model X.prog X.w) X.A tt Q E s:=λ{α tt Q s} hw=>aa6 hw (λ_ _ q=>q) λ_ _ q=>by rw[hE]at q;exact q.elim
  refine bQ (ua (hi X g pins s σ H (λJ H2=>∃j,HR X.K H2 j Y/\Fm X.K r j H H2/\qM X.K j H2 src J) I ⟨r,fr,h,src,Y,sr,hr,e1,λJ H2 j i f2 hJ=>⟨j,i,f2,hJ⟩⟩)) λv s1 q1=>?_;refine bQ (ua q1) λitv s2 q2=>?_;obtain⟨ita,L,tn,J,H2,rfl,I2,Tn,P,f2,j,i,Io,hJ⟩:=q2;refine aaY ?_;generalize Ip:s2.heap.objs.size=Dd
  have B:H2 Dd=none:=by rw[<-Ip];exact I2.fresh
  have I3:Inv X pins σ (upd H2 Dd (.lst [])) { s2 with heap:=s2.heap.push { cls:=.type "list",data:=.seq ([]:List Value).toArray }}:=by
   have:=I2.FE (ys:=[]) (its:=[]) (t':=s2.toks) .nil (aaU _);rw[Ip]at this;exact this
  have NK:∀b∈L,b<s2.heap.objs.size:=λb f=>by
   obtain⟨o,e,_⟩:=Tn.obj 0 _ P b f;exact aan e
  generalize NL:({ s2 with heap:=s2.heap.push { cls:=.type "list",data:=.seq ([]:List Value).toArray }}:Shared)=s3 at I3
  have WG:s3.heap.objs.size=s2.heap.objs.size+1:=by rw[<-NL];exact acJ ..
  have k3:∀b o,s2.heap.get? b=some o->s3.heap.get? b=some o:=λb o e=>by rw[<-NL];exact aac _ e
  have NN:∀b∈L,b<s3.heap.objs.size:=λb f=>aaa (NK b f) (by rw[WG];exact ac0 _);have Z:∀b∈L,iR X pins (upd H2 Dd (.lst [])) b:=λb f=>⟨by rw[aJ (λz=>absurd (NK b f) (by rw[z,Ip];exact aaF _))];exact(f2 b f).1,(f2 b f).2⟩
  refine wpAny_newFunctionEnv (hs.C6) (λy hy=>by simp at hy) (λNO WH WI=>?_) hs.kind;have k4:∀b o,s3.heap.get? b=some o->NO.get? b=some o:=λb o e=>WI.extBut b o (aaB (aan e)) (aac _ e);have gC:Good G n (fK sc scope) N' false (rR X N' scope cl s3.heap.objs.size s3 (upd H2 Dd (.lst [])) L):=g.comp;have I4:Inv (rR X N' scope cl s3.heap.objs.size s3 (upd H2 Dd (.lst [])) L) [] (sig scope N N' m' X.K (upd H2 Dd (.lst [])) j fr σ) (upd H2 Dd (.lst [])) { s3 with heap:=NO,toks:=s3.toks+0 }:=
   Gf g I3 hs iV lV Z NN WH k4
  have zL:SR X.K m' (upd H2 Dd (.lst [])) j fr (sig scope N N' m' X.K (upd H2 Dd (.lst [])) j fr σ):=NH (((sr.mono Io).mono (Fm.tup B))) hn hu;have jU:HR X.K (upd H2 Dd (.lst [])) j Y:=i.tup B;have UT:Dd∉j:=λhm=>by
   obtain⟨k,hk⟩:=acT hm;have W:k<Y.length:=by rw[<-i.len];exact(List.getElem?_eq_some_iff.mp hk).1
   obtain⟨a,e3,e4⟩:=i.ob k _ (QJ W);rw[hk]at e3;cases e3;cases M:Y[k]with
   |lst dd=>rw[M]at e4;obtain⟨us,l,_⟩:=e4;rw[B]at l;cases l
   |bK dd=>
    rw[M]at e4;obtain⟨us,l,_⟩:=e4;rcases l with ⟨ob,l⟩|⟨ob,_,_,l,_⟩
    .rw[B]at l;cases l
    .have:=aan (I2.t8 _ _ l);rw[Ip]at this;exact absurd this (aaF _)
   |fj kvs=>rw[M]at e4;have l:=e4.1;rw[B]at l;cases l
   |obj c dd=>
    obtain⟨a,w⟩:=i.ox.ob k c dd (by rw[QJ W,M]);rcases w.dc with ⟨ps,_,⟨_,w2⟩|⟨_,_,w2⟩⟩ <;> (have:=w.at_;rw[hk]at this;cases this;rw[B]at w2;cases w2)
   |jS nn kk=>
    obtain⟨a,_,w,w2,_⟩:=i.ox.pv k nn kk (by rw[QJ W,M]);rw[hk]at w;cases w;rw[B]at w2;cases w2
  have XM:H Dd=none:=by
   cases z:H Dd with
   |none=>rfl
   |some o=>
    have hnr:Dd∉r:=λhm=>by
     obtain⟨k,hk⟩:=acT hm;exact UT (aag (Io.pre _ _ hk))
    have:=Io.keep _ _ z hnr;rw[B]at this;cases this
  have mY:∀{Hc:Hp},(∀b∈L,Hc b=none)->∀b∈L,iR (rR X N' scope cl s3.heap.objs.size s3 (upd H2 Dd (.lst [])) L) [] Hc b:=λ{Hc} hz b f=>by
   refine⟨hz b f,aaB (NN b f),(I4.ok).sX b f,.inl f,λx c e=>((I4.ok).HS b f).2 x c e,λp hp=>?_⟩;simp[rR]at hp
  have hsz:ds.length<=sizeLine:=by
   unfold Ev.alloc at e;split at e
   .rename_i z;rw[<-kB];exact z
   .cases e
  have fin:codeAny (model X.prog X.w) X.A (.compLoop (.ListComp xe [⟨tg,xi,ifs,0⟩] scope pos) 0 (.ref ita) (.ref Dd) (compEnvC scope cl s3.heap.objs.size X.env)) (post (.ref Dd) s3.heap.objs.size) { s3 with heap:=NO,toks:=s3.toks+0 }:=by
   refine C7 gC hg hc he Tn mY hu hJ B hsz (λs6 qv Hc rc vs I6 uz wH qw wG C8=>?_) ⟨0,_,_,j,Y,[],[],ds,I4,Tn.keep _ _ _ P λb f o M=>k4 b o (k3 b o M),λb f=>(Z b f).1,rfl,aaU _,zL,jU,Fm.tup B,dZ,UT,.nil,by rw[abl];exact e2,rfl⟩;unfold Ev.alloc at e;split at e
   .cases e;obtain⟨XN,WJ,_⟩:=I6.loc;refine hpost Dd _ s6 Hc (rc++[Dd]) ?_ ⟨XN,WJ⟩ ?_ ⟨Dd,rfl,?_⟩ (uz.known qw wG C8) ((Io.trans wH).known ?_)
    .exact I3.Sj (ch:=L) (I6.os) I6.base I6.hok I6.bare λb f=>⟨(Z b f).2.2.2.1,(Z b f).2.1,(Z b f).2.2.2.2.1,(Z b f).2.2.2.2.2⟩
    .exact I3.Ba (aae _) I6.free
    .rw[<-uz.len];simp
    .exact XM
   .cases e
  subst NL;exact codeAny_compStart_list fin (Tn.self _ 0 _ _ _ (Tn.keep _ _ _ P λb f o M=>k4 b o (k3 b o M)) fin)
 .cases e
end
section
variable{G:Tb}{n:Nat}{sc scope:Scope}{N N':List Str}{df:Bool}{m m':List Nat}{elt:E}{t:T}{it:Ev.It}{cond:Eo}{xe xi tg:Expr}{ifs:List Expr}{pos:Pos}
theorem Good.cells{X:Cx}{pins:List (Addr×Obj)}{σ:L2.St}{H:Hp}{s:Shared}(g:Good G n sc N df X)(I:Inv X pins σ H s)(hs:lU sc scope) :
  ∃cl,closureFor scope X.env=pure cl/\(∀x c,cl.lookup x=some c->X.env.cells.lookup x=some c)/\∀x,(x,NameKind.free)∈scope.names->∃c,cl.lookup x=some c:=
 Kw λx a=>I.ok.has x (by unfold Env.kindOf;rw[g.sc];exact(hs.free x a).1)
def De{X:Cx}{pins:List (Addr×Obj)}{σ:L2.St}{H:Hp}{s:Shared}(I:Inv X pins σ H s){C:Addr}(fp:iR X pins H C){h':Heap}(hs:Heap.SameBut C s.heap h'):Inv X pins σ H { s with heap:=h' }:=
 I.turned (t':=s.toks) (λb o a e=>hs.extBut b o a e) fp.1 fp.2.1 fp.2.2.2.1 fp.2.2.2.2.1 fp.2.2.2.2.2
def zQ(hi:JI G n sc N df m it tg xi)(hg:JG G n (fK sc scope) N' false m' t tg)(hc:JC G n (fK sc scope) N' false m' cond ifs)(he:JE G n (fK sc scope) N' false m' elt xe)
  (hn:namesOk sc N m scope t N' m') (hs:lU sc scope) (hf:autoParam (∀(env:Env) x,foldedSetIterable xi env x=pure x) zl._auto_1):JE G n sc N df m (.comp elt t it cond) (.ListComp xe [⟨tg,xi,ifs,0⟩] scope pos):=λX g pins s σ H Q I q=>by
 obtain⟨r,F,h,d,J,i,j,e,q⟩:=q;obtain⟨K,a,l,o⟩:=g.cells I hs;rw[eval_ListComp];refine acw (use:=none) (Q:=EP X pins σ Q) rfl (hf _) a hs.kind hs.loc ?_;refine uE g hi hg hc he hn hs l o I i j e (λb C=>compPost (model X.prog X.w) X.A X.xe none (EP X pins σ Q) b C) (λDd C L H' p I' c y rv f Iq=>?_) g.xe;obtain⟨z,c⟩:=c;exact⟨z,c,λB Df=>⟨.ref Dd,H',De I' y Df,rfl,q _ H' p rv f Iq⟩⟩
def KA(j i:Nat){x:Str}{pos' cpos:Pos}(hm:m.Nodup)(hN:N.Nodup)(hi:JI G n sc N df m it tg xi)(hg:JG G n (fK sc scope) N' false m' t tg)(hc:JC G n (fK sc scope) N' false m' cond ifs)(he:JE G n (fK sc scope) N' false m' elt xe)
  (hn:namesOk sc N m scope t N' m') (hs:lU sc scope) (hj:autoParam (m[j]?=some i) zb._auto_1) (uw:autoParam (N[j]?=some x) zb._auto_1)
  (hl:autoParam (sc.names.lookup x=some .local\/(df=true/\sc.names.lookup x=some .cell)) zn._auto_1) (hf:autoParam (∀(env:Env) x,foldedSetIterable xi env x=pure x) zl._auto_1) :
  JS G n sc N df m (.set i (.comp elt t it cond)) (.Assign [.Name x pos'] (.ListComp xe [⟨tg,xi,ifs,0⟩] scope cpos) pos):=λX g=>by
 obtain⟨y,W⟩:=g.loc hl;have f:swapsWith (.ListComp xe [⟨tg,xi,ifs,0⟩] scope cpos) (some (.Name x pos')) pos.line X.env=pure (X.env.blockKind==.function&&X.env.kindOf x==some .local&&pos'.line==(Expr.ListComp xe [⟨tg,xi,ifs,0⟩] scope cpos).pos.line&&!(scope.names.any λ(n,k)=>n==x&&(k==.local ||k==.cell))):=rfl;generalize hb:(X.env.blockKind==.function&&X.env.kindOf x==some .local&&pos'.line==(Expr.ListComp xe [⟨tg,xi,ifs,0⟩] scope cpos).pos.line&&!(scope.names.any λ(n,k)=>n==x&&(k==.local ||k==.cell)))=b at f
 cases b with
 |false=>
  refine PS.of (rB (i:=j) (by rw[g.nm];exact hN) (by rw[g.nm];exact uw) y (zQ hi hg hc he hn hs hf X g) f W) λQ s H q=>?_;obtain⟨r,Y,h,fl,Z,h',o,B,e,q⟩:=q;simp only[Ev.fR]at e;obtain⟨d,y,F,e⟩:=Ev.ai e;cases e;exact⟨r,Y,h,d,_,o,B,F,λv H1 r1 v1 J f1=>q _ H1 r1 ((o.mono f1).set hm hj v1) J f1⟩
 |true=>
  have Zh:X.env.kindOf x=some .local:=by
   simp only[W2,beq_iff_eq]at hb;exact hb.1.1.2
  intro c s σ H Q I q;obtain⟨r,Y,h,fl,Z,h',o,B,e,q⟩:=q;simp only[Ev.fR]at e;obtain⟨d,h3,F,e⟩:=Ev.ai e;cases e;obtain⟨cl,K,iV,lV⟩:=g.cells I hs;rw[exec_Assign_Name_used _ _ _ _ f];refine gV (wpAny_standAt (gV ?_));show wpAny _ X.A (do let _ <-comprehension (.ListComp xe [⟨tg,xi,ifs,0⟩] scope cpos) scope X.env _ (newList []) false (eval xi X.env) (some (assign (.Name x pos') X.env))) _ _ s;refine gV (aa6 (acw (use:=some (assign (.Name x pos') X.env)) (Q:=λ_ l=>SP X c Q .next l) rfl (hf _) K hs.kind hs.loc ?_) (λ_ l hq=>aaf (aaf hq)) λ_ _ e=>e);refine uE g hi hg hc he hn hs iV lV I o B F (λL C=>compPost (model X.prog X.w) X.A X.xe (some (assign (.Name x pos') X.env)) (λ_ l=>SP X c Q .next l) L C) (λDd C l H' r' I' M p rv P Iq=>?_) g.xe;obtain⟨mm,M⟩:=M;show wpAny _ X.A (assign (.Name x pos') X.env (.ref Dd)) _ _ l;refine wpAny_assign_Name (t9 (v:=.ref Dd) I' (by rw[g.nm];exact hN) (i:=j) (by rw[g.nm];exact uw) y rfl (λs'' XO Df=>?_) W);obtain⟨a,Df,ha⟩:=Df;have XQ:C≠a:=by
   rcases ha with z|z
   .rw[z];exact p.2.1
   .exact λw=>p.2.2.2.2.1 x a z w.symm
  refine⟨mm,M.sameBut Df XQ,λh'' WK=>?_⟩;exact⟨_,H',De XO ⟨p.1,p.2⟩ WK,q _ H' r' ((o.mono Iq).set hm hj rv) P Iq⟩
end
end Sm
namespace Sm
open PySem PySem.Spec PyProof.Rows L2 PySem.SeqAt
open Ev (D O Hh Fr R aS E Es Eo T S Ss Fl Src bV bR TY BI ME)
structure wI(A:Around)(s:Shared)(u w:Value)(k:Bool):Prop where
 eq:EqAt A s u w k
 rc:RcAt A s u w k
 ne:RcNeAt A s u w (!k)
theorem tM{f:D->D->Option Bool}:∀{x y:List D},x.length≠y.length->∀{k},Ev.cU f x y=some k->k=false
 |[],[],h,_,_=>absurd rfl h
 |[],_ :: _,_,_,e=>by cases e;rfl
 |_ :: _,[],_,_,e=>by cases e;rfl
 |a :: x,b :: y,h,k,e=>by
  simp only[Ev.cU,abD,aah]at e;obtain⟨p,_,q,c,d⟩:=e;have:=tM (x:=x) (y:=y) (by simpa using h) c;subst this;cases d;simp
theorem zR{f:D->D->Option Bool}:∀{x y:List D}{k},Ev.cU f x y=some k->x.length=y.length->∃e:Nat->Bool,(∀(j:Nat) a b,x[j]?=some a->y[j]?=some b->f a b=some (e j))/\(List.range x.length).all e=k
 |[],[],_,h,_=>⟨λ_=>true,(λj a b c=>by simp at c),by cases h;simp⟩
 |[],_ :: _,_,_,h=>by simp at h
 |_ :: _,[],_,_,h=>by simp at h
 |a :: x,b :: y,k,h,hl=>by
  simp only[Ev.cU,abD,aah]at h;obtain⟨p,i,q,l,o⟩:=h;cases o;obtain⟨e,c,r⟩:=zR l (by simpa using hl);refine⟨λj=>match j with|0=>p|j+1=>e j,λj z A d g=>?_,?_⟩
  .cases j with
   |zero=>simp at d g;subst d g;exact i
   |succ j=>exact c j z A (by simpa using d) (by simpa using g)
  .rw[aal,acG,List.all_cons,List.all_map,<-r];rfl
theorem zS{f:D->D->Option Bool}:∀{x y:List D}{k},Ev.cU f x y=some k->∃e:Nat->Bool,∀(j:Nat) a b,x[j]?=some a->y[j]?=some b->f a b=some (e j)
 |[],_,_,_=>⟨λ_=>true,λj a b c=>by simp at c⟩
 |_ :: _,[],_,_=>⟨λ_=>true,λj a b _ c=>by simp at c⟩
 |a :: x,b :: y,k,h=>by
  simp only[Ev.cU,abD,aah]at h;obtain⟨p,i,q,l,z⟩:=h;obtain⟨e,c⟩:=zS l;refine⟨λj=>match j with|0=>p|j+1=>e j,λj o r d g=>?_⟩;cases j with
  |zero=>simp at d g;subst d g;exact i
  |succ j=>exact c j o r (by simpa using d) (by simpa using g)
section
variable{X:Cx}{pins:List (Addr×Obj)}{σ:L2.St}{H:Hp}{s:Shared}{r:List Addr}{h:Hh}
def pQ(I:Inv X pins σ H s){a b:Addr}{vs ws:List V}(h1:Br X.K H a vs)(h2:H b=some (.lst ws)):a≠b:=by
 rintro rfl;rcases h1 with ⟨o,h1⟩|⟨o,_,_,h1,_⟩
 .rw[h2]at h1;cases h1
 .have:=(I.bs a o (I.ok.mod.HQ a o h1)).2;rw[h2]at this;cases this
def uF{x y:List D}{vs ws:List V}{us zs:List Value}{f:D->D->Option Bool}{A:Around}{k:Bool}(v1:aH X.K H r x vs)(v2:aH X.K H r y ws)(p1:Vals vs us)(p2:Vals ws zs)
  (ih:∀a b va vb u w k,RV X.K H r a va->RV X.K H r b vb->RelV va u->RelV vb w->f a b=some k->wI A s u w k) (hl:x.length=y.length) (e:Ev.cU f x y=some k) :
  ∃e':Nat->Bool,(∀j (h1:j<us.toArray.size) (h2:j<zs.toArray.size),EqAt A s us.toArray[j] zs.toArray[j] (e' j))/\(List.range us.toArray.size).all e'=k/\us.length=zs.length:=by
 obtain⟨e',h1,h2⟩:=zR e hl;have J:=v1.length;have L:=v2.length;have M:=p1.length;have N:=p2.length;refine⟨e',λj g i=>?_,?_,by omega⟩
 .have XR:j<us.length:=by simpa using g
  have XS:j<zs.length:=by simpa using i
  have c:x[j]?=some x[j]:=QJ (by omega);have d:y[j]?=some y[j]:=QJ (by omega);obtain⟨va,l,o⟩:=v1.get c;obtain⟨vb,p,q⟩:=v2.get d;obtain⟨u,z,B⟩:=p1.get l;obtain⟨w,C,F⟩:=p2.get p;have G:us.toArray[j]=u:=by
   have:=(List.getElem?_eq_some_iff.mp z).2;simpa using this
  have I:zs.toArray[j]=w:=by
   have:=(List.getElem?_eq_some_iff.mp C).2;simpa using this
  rw[G,I];exact(ih _ _ _ _ _ _ _ o q B F (h1 j _ _ c d)).eq
 .rw[<-h2];have:us.toArray.size=x.length:=by simp;omega
  rw[this]
def cH(K:PySem.W.Frag)(H:Hp)(r:List Addr):D->V->Prop
 |.aD,v=>v=.aD
 |.bl b,v=>v=.bl b
 |.int i,v=>v=.int i
 |.str l,v=>v=.str (aO l)
 |.ref n,v=>∃a,v=.ref a/\r[n]?=some a
 |.tup ds,v=>∃a vs,v=.ref a/\dQ K H a vs/\aH K H r ds vs
def RV.shape{d:D}{v:V}(h:RV X.K H r d v):cH X.K H r d v:=by
 cases d<;>simp only[RV]at h<;>simp only[cH]<;>first|exact h|exact h.1
def KC{a b:List Nat}:(aO a==aO b)=(a==b):=by
 by_cases e:a=b
 .subst e;simp
 .have c:(aO a==aO b)=false:=beq_eq_false_iff_ne.mpr λz=>e (iI z);have d:(a==b)=false:=beq_eq_false_iff_ne.mpr e;rw[c,d]
def qN{n:Nat}{A:Around}{x y:List D}{a b:Addr}{vs ws:List V}{k:Bool}(I:Inv X pins σ H s)(hu:A.units<cLine)(q1:fQ X.K H a vs)(q2:fQ X.K H b ws)(v1:aH X.K H r x vs)(v2:aH X.K H r y ws)(hab:a≠b)
  (ih:∀a b va vb u w k,RV X.K H r a va->RV X.K H r b vb->RelV va u->RelV vb w->Ev.dW h n a b=some k->wI A.in1 s u w k) (e:Ev.cU (Ev.dW h n) x y=some k):wI A s (.ref a) (.ref b) k:=by
 obtain⟨i,j,d,_⟩:=I.list q1;obtain⟨l,o,f,_⟩:=I.list q2;by_cases p:x.length=y.length
 .obtain⟨G,q,B,C⟩:=uF v1 v2 j o ih p e;have c:i.toArray.size=l.toArray.size:=by simpa using C
  have g:=RcAt.lists d.isList f.isList c hu q;have z:=RcNeAt.lists d.isList f.isList c hu q;rw[B]at g z;exact⟨.of_refs hab g,g,z⟩
 .have F:=tM p e;subst F;have c:(i.toArray.size != l.toArray.size)=true:=by
   have J:=v1.length;have L:=v2.length;have M:=j.length;have N:=o.length;simp only[Xm,bne_iff_ne,ne_eq];omega
  exact⟨.of_refs hab (.lists_lengths d.isList f.isList c hu),.lists_lengths d.isList f.isList c hu,.lists_lengths d.isList f.isList c hu⟩
def Dg(I:Inv X pins σ H s)(hr:HR X.K H r h){n:Nat}{a:Addr}{ds:List D}(e:Ev.bO h n=some ds)(ha:r[n]?=some a):∃us:List Value,PlainL s.heap a us.toArray:=by
 obtain⟨f,g,b,c,i⟩:=hr.read e;rw[ha]at b;cases b;obtain⟨us,_,d,_⟩:=I.list c;exact⟨us,d⟩
def Dh(I:Inv X pins σ H s)(hr:HR X.K H r h):∀(n:Nat) (a b:D) (v:V) (k:Bool),RV X.K H r a v->RV X.K H r b v->Ev.dW h n a b=some k->k=true:=by
 intro n;induction n with
 |zero=>intro a b v k _ _ e;cases e
 |succ n Z=>
  have l:∀(x y:List D) (g:List V) (k:Bool),aH X.K H r x g->aH X.K H r y g->Ev.cU (Ev.dW h n) x y=some k->k=true:=by
   intro x;induction x with
   |nil=>
    intro y g k f c e;simp only[aH]at f;subst f;cases y with
    |nil=>cases e;rfl
    |cons _ _=>simp only[aH]at c;obtain⟨_,_,c,_⟩:=c;cases c
   |cons d x XT=>
    intro y g k f c e;simp only[aH]at f;obtain⟨v,w,rfl,J,h4⟩:=f;cases y with
    |nil=>simp only[aH]at c;cases c
    |cons d' y=>
     simp only[aH]at c;obtain⟨v',w',L,h5,h6⟩:=c;cases L;simp only[Ev.cU,abD,aah]at e;obtain⟨p,A,q,L,e3⟩:=e;cases e3;rw[Z d d' v p J h5 A,XT y w q h4 h6 L];rfl
  have lt:∀(a:Addr) (g:List V) (i:Nat) (ds:List D),dQ X.K H a g->r[i]?=some a->Ev.bO h i=some ds->False:=λa g i ds f c J=>by
   obtain⟨us,pl⟩:=Dg I hr J c;obtain⟨zs,_,pt,_⟩:=I.tuple f;exact ne_of_list_tuple pl.isList pt rfl
  intro a b v k f c e;have s1:=f.shape;have s2:=c.shape;clear f c;cases a with
  |aD=>simp only[cH]at s1;cases b with
   |aD=>cases e;rfl
   |ref m=>obtain⟨p,z,_⟩:=s2;rw[s1]at z;cases z
   |tup y=>obtain⟨p,_,z,_⟩:=s2;rw[s1]at z;cases z
   |_=>simp only[cH]at s2;rw[s1]at s2;cases s2
  |bl x=>simp only[cH]at s1;cases b with
   |bl y=>simp only[cH]at s2;rw[s1]at s2;cases s2;cases e;simp
   |ref m=>obtain⟨p,z,_⟩:=s2;rw[s1]at z;cases z
   |tup y=>obtain⟨p,_,z,_⟩:=s2;rw[s1]at z;cases z
   |_=>simp only[cH]at s2;rw[s1]at s2;cases s2
  |int x=>simp only[cH]at s1;cases b with
   |int y=>simp only[cH]at s2;rw[s1]at s2;cases s2;cases e;simp
   |ref m=>obtain⟨p,z,_⟩:=s2;rw[s1]at z;cases z
   |tup y=>obtain⟨p,_,z,_⟩:=s2;rw[s1]at z;cases z
   |_=>simp only[cH]at s2;rw[s1]at s2;cases s2
  |str x=>simp only[cH]at s1;cases b with
   |str y=>
    simp only[cH]at s2;rw[s1]at s2;have:x=y:=iI (by injection s2);subst this;cases e;simp
   |ref m=>obtain⟨p,z,_⟩:=s2;rw[s1]at z;cases z
   |tup y=>obtain⟨p,_,z,_⟩:=s2;rw[s1]at z;cases z
   |_=>simp only[cH]at s2;rw[s1]at s2;cases s2
  |tup x=>
   obtain⟨p,g,rfl,z,w⟩:=s1;cases b with
   |tup y=>
    obtain⟨M,N,o,j,P⟩:=s2;cases o;rw[I.oA j z]at P;exact l x y g k w P e
   |ref m=>
    obtain⟨M,o,j⟩:=s2;cases o;obtain⟨ds,A,_⟩:=Option.map_eq_some_iff.mp e;exact(lt _ _ _ _ z j A).elim
   |_=>cases s2
  |ref i=>
   obtain⟨p,rfl,z⟩:=s1;cases b with
   |ref m=>
    obtain⟨M,o,j⟩:=s2;cases o;replace e:Ev.kq h (Ev.dW h n) i m=some k:=e;unfold Ev.kq at e;split at e
    .simp only[aab]at e;obtain⟨_,_,e⟩:=e;exact e.symm
    .rename_i Q;split at e
     .rename_i x y B C;exact absurd (hr.inj _ _ _ _ _ z j B C) Q
     .rename_i x y B C;obtain⟨p1,F,Ir,W,_⟩:=hr.ob _ _ B;obtain⟨p2,G,Iu,Y,_⟩:=hr.ob _ _ C;rw[z]at F;cases F;rw[j]at G;cases G;exact absurd rfl (pQ I W Y)
     .rename_i x y B C;obtain⟨p1,F,Ir,W,_⟩:=hr.ob _ _ B;obtain⟨p2,G,Iu,Y,_⟩:=hr.ob _ _ C;rw[z]at F;cases F;rw[j]at G;cases G;exact absurd rfl (pQ I Y W)
     .cases e
   |tup y=>
    obtain⟨M,N,o,j,P⟩:=s2;cases o;obtain⟨ds,A,_⟩:=Option.map_eq_some_iff.mp e;exact(lt _ _ _ _ j z A).elim
   |_=>cases s2
def KD{n:Nat}{A:Around}{x y:List D}{a b:Addr}{vs ws:List V}{k:Bool}(I:Inv X pins σ H s)(hr:HR X.K H r h)(hu:A.units<cLine)(q1:dQ X.K H a vs)(q2:dQ X.K H b ws)(v1:aH X.K H r x vs)(v2:aH X.K H r y ws)
  (ih:∀a b va vb u w k,RV X.K H r a va->RV X.K H r b vb->RelV va u->RelV vb w->Ev.dW h n a b=some k->wI A.in1 s u w k) (e:Ev.cU (Ev.dW h n) x y=some k):wI A s (.ref a) (.ref b) k:=by
 obtain⟨d,C,q,_⟩:=I.tuple q1;obtain⟨f,F,z,_⟩:=I.tuple q2;have l1:=v1.length;have l2:=v2.length;have l3:=C.length;have l4:=F.length;have c:RcAt A s (.ref a) (.ref b) k/\RcNeAt A s (.ref a) (.ref b) (!k):=by
  by_cases M:x.length=y.length
  .obtain⟨i,g,N,Q⟩:=uF v1 v2 C F ih M e;have l:=RcAt.tuples q z hu g;have o:=RcNeAt.tuples q z hu g;have G:d.toArray.size=f.toArray.size:=by simpa using Q
   have B:((List.range (min d.toArray.size f.toArray.size)).all i&&d.toArray.size==f.toArray.size)=k:=by
    rw[<-G,Nat.min_self,N];simp
   rw[B]at l o;exact⟨l,o⟩
  .have J:=tM M e;subst J;have L:∃i:Nat->Bool,∀j (g:j<d.toArray.size) (N:j<f.toArray.size),EqAt A.in1 s d.toArray[j] f.toArray[j] (i j):=by
    obtain⟨i,g⟩:=zS e;refine⟨i,λj W Y=>?_⟩;have XR:j<d.length:=by simpa using W
    have XS:j<f.length:=by simpa using Y
    have P:x[j]?=some x[j]:=QJ (by omega);have B:y[j]?=some y[j]:=QJ (by omega);obtain⟨va,Z,a2⟩:=v1.get P;obtain⟨vb,b1,b2⟩:=v2.get B;obtain⟨u,a3,a4⟩:=C.get Z;obtain⟨w,b3,b4⟩:=F.get b1;have eu:d.toArray[j]=u:=by
     have:=(List.getElem?_eq_some_iff.mp a3).2;simpa using this
    have ew:f.toArray[j]=w:=by
     have:=(List.getElem?_eq_some_iff.mp b3).2;simpa using this
    rw[eu,ew];exact(ih _ _ _ _ _ _ _ a2 b2 a4 b4 (g j _ _ P B)).eq
   obtain⟨i,g⟩:=L;have l:=RcAt.tuples q z hu g;have o:=RcNeAt.tuples q z hu g;have G:(d.toArray.size==f.toArray.size)=false:=by
    simp only[Xm,beq_eq_false_iff_ne,ne_eq];omega
   rw[G,Bool.and_false]at l o;exact⟨l,o⟩
 by_cases p:a=b
 .subst p;rw[I.oA q2 q1]at v2;have J:k=true:=Dh I hr (n+1) (.tup x) (.tup y) (.ref a) k ⟨a,vs,rfl,q1,v1⟩ ⟨a,vs,rfl,q1,v2⟩ e;subst J;exact⟨.same _,c.1,c.2⟩
 .exact⟨.of_refs p c.1,c.1,c.2⟩
end
section
variable{X:Cx}{pins:List (Addr×Obj)}{σ:L2.St}{H:Hp}{s:Shared}{r:List Addr}{h:Hh}
def vt(I:Inv X pins σ H s)(hr:HR X.K H r h):∀(n:Nat) (A:Around) (a b:D) (va vb:V) (u w:Value) (k:Bool),A.units+n<cLine->RV X.K H r a va->RV X.K H r b vb->RelV va u->RelV vb w->Ev.dW h n a b=some k->wI A s u w k:=by
 intro n;induction n with
 |zero=>intro A a b va vb u w k _ _ _ _ _ e;cases e
 |succ n ih=>
  intro A a b va vb u w k hu h1 h2 o f e;have c:A.units<cLine:=by omega
  have B:∀a b va vb u w k,RV X.K H r a va->RV X.K H r b vb->RelV va u->RelV vb w->Ev.dW h n a b=some k->wI A.in1 s u w k:=λa b va vb u w k=>ih A.in1 a b va vb u w k (by show A.units+1+n<cLine;omega);have s1:=h1.shape;have s2:=h2.shape;have lst:∀{i:Nat} {v:V} {u:Value} {ds:List D},cH X.K H r (.ref i) v->RelV v u->Ev.bO h i=some ds->∃p g,u=.ref p/\PlainL s.heap p (List.toArray g):=λ{i v u ds} hv ru el=>by
   obtain⟨p,rfl,z⟩:=hv;cases ru;obtain⟨g,d⟩:=Dg I hr el z;exact⟨p,g,rfl,d⟩
  have tup:∀{ds:List D} {v:V} {u:Value},cH X.K H r (.tup ds) v->RelV v u->∃p g,u=.ref p/\s.heap.IsTuple p (List.toArray g):=λ{ds v u} hv ru=>by
   obtain⟨p,vs,rfl,z,_⟩:=hv;cases ru;obtain⟨g,_,pt,_⟩:=I.tuple z;exact⟨p,g,rfl,pt⟩
  cases a with
  |aD=>
   simp only[cH]at s1;subst s1;cases o;cases b with
   |aD=>simp only[cH]at s2;subst s2;cases f;cases e;exact⟨.same _,.none_none,.none_none⟩
   |bl y=>simp only[cH]at s2;subst s2;cases f;cases e;exact⟨.none_bool _,.none_bool _,.none_bool _⟩
   |int y=>simp only[cH]at s2;subst s2;obtain⟨t,rfl⟩:=f;cases e;exact⟨.none_int _ _,.none_int _ _,.none_int _ _⟩
   |str y=>simp only[cH]at s2;subst s2;obtain⟨t,rfl⟩:=f;cases e;exact⟨.none_str _ _,.none_str _ _,.none_str _ _⟩
   |tup y=>obtain⟨p,g,rfl,pt⟩:=tup s2 f;cases e;exact⟨.none_tuple pt c,.none_tuple pt c,.none_tuple pt c⟩
   |ref m=>
    obtain⟨ds,l,rfl⟩:=Option.map_eq_some_iff.mp e;obtain⟨p,g,rfl,d⟩:=lst s2 f l;exact⟨.none_list d.isList c,.none_list d.isList c,.none_list d.isList c⟩
  |bl x=>
   simp only[cH]at s1;subst s1;cases o;cases b with
   |aD=>simp only[cH]at s2;subst s2;cases f;cases e;exact⟨.bool_none _,.bool_none _,.bool_none _⟩
   |bl y=>simp only[cH]at s2;subst s2;cases f;cases e;exact⟨.bool_bool _ _,.bool_bool _ _,.bool_bool _ _⟩
   |int y=>simp only[cH]at s2;subst s2;obtain⟨t,rfl⟩:=f;cases e;exact⟨.bool_int _ _ _,.bool_int _ _ _,.bool_int _ _ _⟩
   |str y=>simp only[cH]at s2;subst s2;obtain⟨t,rfl⟩:=f;cases e;exact⟨.bool_str _ _ _,.bool_str _ _ _,.bool_str _ _ _⟩
   |tup y=>obtain⟨p,g,rfl,pt⟩:=tup s2 f;cases e;exact⟨.bool_tuple _ pt c,.bool_tuple _ pt c,.bool_tuple _ pt c⟩
   |ref m=>
    obtain⟨ds,l,rfl⟩:=Option.map_eq_some_iff.mp e;obtain⟨p,g,rfl,d⟩:=lst s2 f l;exact⟨.bool_list _ d.isList c,.bool_list _ d.isList c,.bool_list _ d.isList c⟩
  |int x=>
   simp only[cH]at s1;subst s1;obtain⟨t0,rfl⟩:=o;cases b with
   |aD=>simp only[cH]at s2;subst s2;cases f;cases e;exact⟨.int_none _ _,.int_none _ _,.int_none _ _⟩
   |bl y=>simp only[cH]at s2;subst s2;cases f;cases e;exact⟨.int_bool _ _ _,.int_bool _ _ _,.int_bool _ _ _⟩
   |int y=>simp only[cH]at s2;subst s2;obtain⟨t,rfl⟩:=f;cases e;exact⟨.int_int _ _ _ _,.int_int _ _ _ _,.int_int _ _ _ _⟩
   |str y=>simp only[cH]at s2;subst s2;obtain⟨t,rfl⟩:=f;cases e;exact⟨.int_str _ _ _ _,.int_str _ _ _ _,.int_str _ _ _ _⟩
   |tup y=>obtain⟨p,g,rfl,pt⟩:=tup s2 f;cases e;exact⟨.int_tuple _ _ pt c,.int_tuple _ _ pt c,.int_tuple _ _ pt c⟩
   |ref m=>
    obtain⟨ds,l,rfl⟩:=Option.map_eq_some_iff.mp e;obtain⟨p,g,rfl,d⟩:=lst s2 f l;exact⟨.int_list _ _ d.isList c,.int_list _ _ d.isList c,.int_list _ _ d.isList c⟩
  |str x=>
   simp only[cH]at s1;subst s1;obtain⟨t0,rfl⟩:=o;cases b with
   |aD=>simp only[cH]at s2;subst s2;cases f;cases e;exact⟨.str_none _ _,.str_none _ _,.str_none _ _⟩
   |bl y=>simp only[cH]at s2;subst s2;cases f;cases e;exact⟨.str_bool _ _ _,.str_bool _ _ _,.str_bool _ _ _⟩
   |int y=>simp only[cH]at s2;subst s2;obtain⟨t,rfl⟩:=f;cases e;exact⟨.str_int _ _ _ _,.str_int _ _ _ _,.str_int _ _ _ _⟩
   |str y=>
    simp only[cH]at s2;subst s2;obtain⟨t,rfl⟩:=f;cases e;rw[<-KC];exact⟨.str_str _ _ _ _,.str_str _ _ _ _,.str_str _ _ _ _⟩
   |tup y=>obtain⟨p,g,rfl,pt⟩:=tup s2 f;cases e;exact⟨.str_tuple _ _ pt c,.str_tuple _ _ pt c,.str_tuple _ _ pt c⟩
   |ref m=>
    obtain⟨ds,l,rfl⟩:=Option.map_eq_some_iff.mp e;obtain⟨p,g,rfl,d⟩:=lst s2 f l;exact⟨.str_list _ _ d.isList c,.str_list _ _ d.isList c,.str_list _ _ d.isList c⟩
  |tup x=>
   cases b with
   |tup y=>
    obtain⟨p,vs,rfl,z,w1⟩:=s1;obtain⟨Z,vs',rfl,C,w2⟩:=s2;cases o;cases f;exact KD I hr c z C w1 w2 B e
   |aD=>obtain⟨p,g,rfl,pt⟩:=tup s1 o;simp only[cH]at s2;subst s2;cases f;cases e;exact⟨.tuple_none pt c,.tuple_none pt c,.tuple_none pt c⟩
   |bl y=>obtain⟨p,g,rfl,pt⟩:=tup s1 o;simp only[cH]at s2;subst s2;cases f;cases e;exact⟨.tuple_bool _ pt c,.tuple_bool _ pt c,.tuple_bool _ pt c⟩
   |int y=>obtain⟨p,g,rfl,pt⟩:=tup s1 o;simp only[cH]at s2;subst s2;obtain⟨t,rfl⟩:=f;cases e;exact⟨.tuple_int _ _ pt c,.tuple_int _ _ pt c,.tuple_int _ _ pt c⟩
   |str y=>obtain⟨p,g,rfl,pt⟩:=tup s1 o;simp only[cH]at s2;subst s2;obtain⟨t,rfl⟩:=f;cases e;exact⟨.tuple_str _ _ pt c,.tuple_str _ _ pt c,.tuple_str _ _ pt c⟩
   |ref m=>
    obtain⟨p,g,rfl,pt⟩:=tup s1 o;obtain⟨ds,l,rfl⟩:=Option.map_eq_some_iff.mp e;obtain⟨Z,W,rfl,d⟩:=lst s2 f l;exact⟨.tuple_list pt d.isList c,.tuple_list pt d.isList c,.tuple_list pt d.isList c⟩
  |ref i=>
   cases b with
   |ref m=>
    replace e:Ev.kq h (Ev.dW h n) i m=some k:=e;unfold Ev.kq at e;split at e
    .rename_i XU;subst XU;simp only[aab]at e;obtain⟨ds,l,rfl⟩:=e;obtain⟨p,g,rfl,d⟩:=lst s1 o l;obtain⟨p0,rfl,z⟩:=s1;obtain⟨p1,rfl,C⟩:=s2;rw[z]at C;cases C;cases o;cases f;have q:(List.range (List.toArray g).size).all (λ_=>true)=true:=by simp
     have rc:=RcAt.lists (A:=A) (e:=λ_=>true) d.isList d.isList rfl c λj _ _=>EqAt.same _;have ne:=RcNeAt.lists (A:=A) (e:=λ_=>true) d.isList d.isList rfl c λj _ _=>EqAt.same _;rw[q]at rc ne;exact⟨.same _,rc,ne⟩
    .rename_i Y;obtain⟨p0,rfl,z⟩:=s1;obtain⟨p1,rfl,C⟩:=s2;cases o;cases f;split at e
     .rename_i x y M N;obtain⟨q0,F,Ir,J,P⟩:=hr.ob _ _ M;obtain⟨q4,G,Iu,L,Q⟩:=hr.ob _ _ N;rw[z]at F;cases F;rw[C]at G;cases G;exact qN I c (.of J) (.of L) P Q (λw=>Y (hr.inj _ _ _ _ _ z (by rw[w];exact C) M N)) B e
     .rename_i x y M N;obtain⟨q0,F,Ir,J,P⟩:=hr.ob _ _ M;obtain⟨q4,G,Iu,L,Q⟩:=hr.ob _ _ N;rw[z]at F;cases F;rw[C]at G;cases G;exact qN I c (Iv J) (.of L) P Q (pQ I J L) B e
     .rename_i x y M N;obtain⟨q0,F,Ir,J,P⟩:=hr.ob _ _ M;obtain⟨q4,G,Iu,L,Q⟩:=hr.ob _ _ N;rw[z]at F;cases F;rw[C]at G;cases G;exact qN I c (.of J) (Iv L) P Q (pQ I L J).symm B e
     .cases e
   |aD=>obtain⟨ds,l,rfl⟩:=Option.map_eq_some_iff.mp e;obtain⟨p,g,rfl,d⟩:=lst s1 o l;simp only[cH]at s2;subst s2;cases f;exact⟨.list_none d.isList c,.list_none d.isList c,.list_none d.isList c⟩
   |bl y=>obtain⟨ds,l,rfl⟩:=Option.map_eq_some_iff.mp e;obtain⟨p,g,rfl,d⟩:=lst s1 o l;simp only[cH]at s2;subst s2;cases f;exact⟨.list_bool _ d.isList c,.list_bool _ d.isList c,.list_bool _ d.isList c⟩
   |int y=>obtain⟨ds,l,rfl⟩:=Option.map_eq_some_iff.mp e;obtain⟨p,g,rfl,d⟩:=lst s1 o l;simp only[cH]at s2;subst s2;obtain⟨t,rfl⟩:=f;exact⟨.list_int _ _ d.isList c,.list_int _ _ d.isList c,.list_int _ _ d.isList c⟩
   |str y=>obtain⟨ds,l,rfl⟩:=Option.map_eq_some_iff.mp e;obtain⟨p,g,rfl,d⟩:=lst s1 o l;simp only[cH]at s2;subst s2;obtain⟨t,rfl⟩:=f;exact⟨.list_str _ _ d.isList c,.list_str _ _ d.isList c,.list_str _ _ d.isList c⟩
   |tup y=>
    obtain⟨ds,l,rfl⟩:=Option.map_eq_some_iff.mp e;obtain⟨p,g,rfl,d⟩:=lst s1 o l;obtain⟨Z,W,rfl,pt⟩:=tup s2 f;exact⟨.list_tuple d.isList pt c,.list_tuple d.isList pt c,.list_tuple d.isList pt c⟩
where
 Iv {K:PySem.W.Frag} {H:Hp} {a:Addr} {vs:List V} (q:Br K H a vs):fQ K H a vs:=by
  rcases q with ⟨ob,e2⟩|e2
  .exact .inl (.inr ⟨ob,e2⟩)
  .exact .inr e2
end
theorem Good.units{G:Tb}{n:Nat}{sc:Scope}{N:List Str}{df:Bool}{X:Cx}(g:Good G n sc N df X):X.A.units+1+Ev.deep<cLine:=by
 have:=g.room.un;have:Ev.deep=20:=rfl;omega
section
variable{G:Tb}{n:Nat}{sc:Scope}{N:List Str}{df:Bool}{X:Cx}
def zT{pins:List (Addr×Obj)}{σ:L2.St}{H:Hp}{s:Shared}{Q:VK}{r:List Addr}{h:Hh}{k:Bool}(I:Inv X pins σ H s)(hr:HR X.K H r h)(q:Res X.K r H h (.bl k) Q):EP X pins σ Q (.bool k) s:=
 ⟨.bl k,H,I,rfl,q.here rfl hr⟩
def Iw(g:Good G n sc N df X):eg X (compareOp .Eq) (iU X.K (iD .eq)):=by
 intro c s σ H x y v u Q I rx ry q;obtain⟨r,h,a,b,d,o,f,i,j,e,q⟩:=q;obtain⟨k,l,rfl,rfl⟩:=j8 e;have:=g.units;exact(vt I f Ev.deep X.A a b x y v u k (by omega) i j rx ry l).rc _ _ _ _ (zT I f q)
def Ti(g:Good G n sc N df X):eg X (compareOp .NotEq) (iU X.K (iD .ne)):=by
 intro f s σ H x y v u Q I rx ry q;obtain⟨r,h,a,b,d,z,i,j,l,e,q⟩:=q;obtain⟨k,c,rfl,rfl⟩:=j8 e;have:=g.units
 delta Ev.cop at c;dsimp only at c;simp only[aab]at c
 obtain⟨o,p,rfl⟩:=c;exact(vt I i Ev.deep X.A a b x y v u o (by omega) j l rx ry p).ne _ _ _ _ (zT I i q)
def Di{op:CmpOp}{o:bR}{p:Int->Int->Bool}(ho:eg X (compareOp op) (vS λi j=>.bl (p i j)))(hc:∀a b h k,Ev.cop o a b h=some k->∃i j,a=.int i/\b=.int j/\k=p i j):eg X (compareOp op) (iU X.K (iD o)):=by
 intro c s σ H x y v u Q I rx ry q;obtain⟨r,h,a,b,d,A,f,g,l,e,q⟩:=q;obtain⟨k,z,rfl,rfl⟩:=j8 e;obtain⟨i,j,rfl,rfl,rfl⟩:=hc _ _ _ _ z;exact ho c s σ H x y v u Q I rx ry ⟨i,j,g,l,q.here rfl f⟩
def Tj:eg X (compareOp .Lt) (iU X.K (iD .lt)):=Di SA λa b h k e=>by
 cases a<;>cases b <;> (delta Ev.cop at e;dsimp only at e)<;>first | (cases e;exact⟨_,_,rfl,rfl,rfl⟩)|cases e
def Iz:eg X (compareOp .Gt) (iU X.K (iD .gt)):=Di SD λa b h k e=>by
 cases a<;>cases b <;> (delta Ev.cop at e;dsimp only at e)<;>first | (cases e;exact⟨_,_,rfl,rfl,rfl⟩)|cases e
def NP:eg X (compareOp .Is) (iU X.K (iD .zI)):=by
 intro g s σ H x y v u Q I rx ry q;obtain⟨r,h,a,b,d,l,f,i,j,e,q⟩:=q;obtain⟨k,c,rfl,rfl⟩:=j8 e;cases b with
 |aD=>
  refine MG g s σ H x y v u Q I rx ry ⟨j,?_⟩;have:=i.shape;cases a with
  |aD=>simp only[cH]at this;subst this;cases c;exact q.here rfl f
  |bl _=>simp only[cH]at this;subst this;cases c;exact q.here rfl f
  |int _=>simp only[cH]at this;subst this;cases c;exact q.here rfl f
  |str _=>simp only[cH]at this;subst this;cases c;exact q.here rfl f
  |ref _=>obtain⟨p,rfl,_⟩:=this;cases c;exact q.here rfl f
  |tup _=>obtain⟨p,_,rfl,_⟩:=this;cases c;exact q.here rfl f
 |_=>cases a<;>cases c
def KG:eg X (compareOp .IsNot) (iU X.K (iD .lT)):=by
 intro g s σ H x y v u Q I rx ry q;obtain⟨r,h,a,b,d,l,f,i,j,e,q⟩:=q;obtain⟨k,c,rfl,rfl⟩:=j8 e;cases b with
 |aD=>
  refine J0 g s σ H x y v u Q I rx ry ⟨j,?_⟩;have:=i.shape;cases a with
  |aD=>simp only[cH]at this;subst this;cases c;exact q.here rfl f
  |bl _=>simp only[cH]at this;subst this;cases c;exact q.here rfl f
  |int _=>simp only[cH]at this;subst this;cases c;exact q.here rfl f
  |str _=>simp only[cH]at this;subst this;cases c;exact q.here rfl f
  |ref _=>obtain⟨p,rfl,_⟩:=this;cases c;exact q.here rfl f
  |tup _=>obtain⟨p,_,rfl,_⟩:=this;cases c;exact q.here rfl f
 |_=>cases a<;>cases c
end
section
variable{n:Nat}{X:Cx}
def tN(a b:List Nat):aO a++aO b=aO (a++b):=by
 show Str.append (aO a) (aO b)=_;simp[Str.append,aO]
def KH{pins:List (Addr×Obj)}{σ:L2.St}{H:Hp}{s:Shared}{Q:Value->Shared->Prop}{E:Value->Shared->Prop}(I:Inv X pins σ H s){a b:Addr}{ys:List V}(h1:dQ X.K H a [])(h2:dQ X.K H b ys)(q:Q (.ref b) s):wpAny (model X.prog X.w) X.A (binaryOp .Add (.ref a) (.ref b)) Q E s:=by
 obtain⟨y,p,XW,_⟩:=I.tuple h1;obtain⟨z,B,XX,_⟩:=I.tuple h2;cases p;obtain⟨⟨r,dd,i,x⟩,j,l,n,o⟩:=id XW;obtain⟨⟨Wm,f,g,h⟩,c,d,n2,e⟩:=id XX;simp only at l o d e;subst l o d e;exact concat_meets ⟨_,j,rfl⟩ ⟨_,c,rfl⟩ acq seq_tuple_add abW abR (abN _ _)
  (tuple_addW0 a b _ _ n n2 dd f x h (by simp)) ⟨j,c,q⟩
def NQ:eg X (binaryOp .Add) (iU X.K (Ev.bW .add)):=by
 intro c s σ H x y v u Q I rx ry q;obtain⟨r,h,a,b,d,h',g,Y,Z,e,q⟩:=q;have s1:=Y.shape;have s2:=Z.shape;cases a with
 |int i=>cases b with
  |int j=>cases e;exact MA c s σ H x y v u Q I rx ry ⟨i,j,s1,s2,q.here rfl g⟩
  |_=>cases e
 |str i=>cases b with
  |str j=>
   delta Ev.bW at e;dsimp only at e
   split at e
   .rename_i f;cases e;rw[kB]at f;refine Be c s σ H x y v u Q I rx ry ⟨aO i,aO j,s1,s2,by rw[dz,dz];exact f,?_⟩;rw[tN];exact q.here ⟨rfl,by rw[aam];exact f⟩ g
   .cases e
  |_=>cases e
 |tup i=>cases b with
  |tup j=>
   delta Ev.bW at e;dsimp only at e
   split at e
   .rename_i f;cases e;rw[kB]at f;obtain⟨B,l,rfl,o,F⟩:=s1;obtain⟨z,C,rfl,A,G⟩:=s2;have J:=F.length;have L:=G.length;cases l with
    |nil=>
     cases rx;cases ry;refine KH I o A ⟨.ref z,H,I,rfl,q.here ?_ g⟩;have:i=[]:=by cases i with|nil=>rfl|cons _ _=>simp at J
     subst this;exact⟨z,C,rfl,A,by simpa using G⟩
    |cons M l=>
     refine J8 c s σ H _ _ v u Q I rx ry ⟨B,z,M :: l,C,rfl,rfl,o,A,by simp,by rw[J,L];exact f,λN=>?_,λN p hp=>?_⟩
     .subst N;have:j=[]:=by cases j with|nil=>rfl|cons _ _=>simp at L
      subst this;exact q.here ⟨B,M :: l,rfl,o,by simpa using F⟩ g
     .exact q.tup (F.append G) g hp
   .cases e
  |_=>cases e
 |ref i=>cases b with
  |ref j=>
   delta Ev.bW at e;dsimp only at e
   split at e
   .rename_i ds es e1 e2;obtain⟨B,rfl,o⟩:=s1;obtain⟨z,rfl,A⟩:=s2;cases rx;cases ry;obtain⟨p1,P,l,g2,g3⟩:=g.ob _ _ e1;obtain⟨p2,W,C,k2,k3⟩:=g.ob _ _ e2;rw[o]at P;cases P;rw[A]at W;cases W;obtain⟨f,q2⟩:=q.lst e (g3.append k3) g;exact MU c s σ H (.ref B) (.ref z) _ _ Q I rfl rfl ⟨_,_,l,C,rfl,rfl,g2,k2,by rw[aam]at f;exact f,q2⟩
   .cases e
  |_=>cases e
 |_=>cases b<;>cases e
def NR:eg X (binaryOp .Sub) (iU X.K (Ev.bW .sub)):=by
 intro c s σ H x y v u Q I rx ry q;obtain⟨r,h,a,b,d,o,f,g,l,e,q⟩:=q;cases a with
 |int i=>cases b with
  |int j=>cases e;exact MB c s σ H x y v u Q I rx ry ⟨i,j,g,l,q.here rfl f⟩
  |_=>cases e
 |_=>cases b<;>cases e
def KI:eg X (binaryOp .FloorDiv) (iU X.K (Ev.bW .fdiv)):=by
 intro c s σ H x y v u Q I rx ry q;obtain⟨r,h,a,b,d,p,f,g,l,e,q⟩:=q;cases a with
 |int i=>cases b with
  |int j=>
   delta Ev.bW at e;dsimp only at e
   split at e
   .rename_i o;cases e;exact JZ c s σ H x y v u Q I rx ry ⟨i,j,g,l,o,q.here rfl f⟩
   .cases e
  |_=>cases e
 |_=>cases b<;>cases e
def NS:eg X (binaryOp .Mod) (iU X.K (Ev.bW .mod)):=by
 intro c s σ H x y v u Q I rx ry q;obtain⟨r,h,a,b,d,p,f,g,l,e,q⟩:=q;cases a with
 |int i=>cases b with
  |int j=>
   delta Ev.bW at e;dsimp only at e
   split at e
   .rename_i o;cases e;exact MD c s σ H x y v u Q I rx ry ⟨i,j,g,l,o,q.here rfl f⟩
   .cases e
  |_=>cases e
 |_=>cases b<;>cases e
end
noncomputable def wJ(t:List Nat):D->Bool
 |.str a=>a==t
 |_=>false
def NT{h:Hh}{t:List Nat}{n:Nat}:∀{y:D}{b:Bool},Ev.dW h (n+1) y (.str t)=some b->b=wJ t y
 |.aD,b,e=>by simp only[Ev.dW]at e;cases e;rfl
 |.bl _,b,e=>by simp only[Ev.dW]at e;cases e;rfl
 |.int _,b,e=>by simp only[Ev.dW]at e;cases e;rfl
 |.str _,b,e=>by simp only[Ev.dW]at e;cases e;rfl
 |.tup _,b,e=>by simp only[Ev.dW]at e;cases e;rfl
 |.ref a,b,e=>by
  simp only[Ev.dW,aab]at e;obtain⟨_,_,rfl⟩:=e;rfl
theorem Dj{h:Hh}{t:List Nat}:∀{ys:List D}{k:Nat},Ev.cnt h (.str t) ys=some k->(∀y∈ys,Ev.dW h Ev.deep y (.str t)=some (wJ t y))/\k=ys.countP (wJ t)
 |[],k,e=>by cases e;simp
 |y :: ys,k,e=>by
  simp only[Ev.cnt,abD,aah]at e;obtain⟨b,c,m,d,f⟩:=e;have g:=NT (n:=19) c;subst g;obtain⟨i,rfl⟩:=Dj d;refine⟨λz a=>?_,?_⟩
  .rcases List.mem_cons.mp a with rfl|a
   .exact c
   .exact i z a
  .cases f;rw[List.countP_cons];split<;>rfl
noncomputable def Gj(t:List Nat):Value->Bool
 |.str a _=>a==aO t
 |_=>false
def IA{K:List (Addr×Obj)}{H:Hp}{r:List Addr}{t:List Nat}{y:D}{v:V}{u:Value}(h1:RV K H r y v)(h2:RelV v u):Gj t u=wJ t y:=by
 cases y with
 |str a=>
  simp only[RV]at h1;obtain⟨rfl,_⟩:=h1;obtain⟨k,rfl⟩:=h2;show(aO a==aO t)=(a==t)
  by_cases q:a=t
  .subst q;simp
  .rw[beq_eq_false_iff_ne.mpr q,beq_eq_false_iff_ne.mpr λz=>q (iI z)]
 |ref n=>
  simp only[RV]at h1;obtain⟨p,rfl,_⟩:=h1;cases h2;rfl
 |tup n=>
  simp only[RV]at h1;obtain⟨p,_,rfl,_⟩:=h1;cases h2;rfl
 |aD=>simp only[RV]at h1;subst h1;cases h2;rfl
 |bl b=>simp only[RV]at h1;subst h1;cases h2;rfl
 |int b=>simp only[RV]at h1;subst h1;obtain⟨k,rfl⟩:=h2;rfl
theorem zU{K:List (Addr×Obj)}{H:Hp}{r:List Addr}{t:List Nat}:∀{ys:List D}{vs:List V}{us:List Value},aH K H r ys vs->Vals vs us->us.countP (Gj t)=ys.countP (wJ t)
 |[],_,us,h1,h2=>by simp only[aH]at h1;subst h1;cases h2;rfl
 |y :: ys,_,us,h1,h2=>by
  simp only[aH]at h1;obtain⟨v,w,rfl,c,d⟩:=h1;cases h2 with
  |cons a b=>rw[List.countP_cons,List.countP_cons,zU d b,IA c a]
noncomputable def wK:D->Bool
 |.aD=>true
 |_=>false
def NU{h:Hh}{n:Nat}:∀{y:D}{b:Bool},Ev.dW h (n+1) y .aD=some b->b=wK y
 |.aD,b,e=>by simp only[Ev.dW]at e;cases e;rfl
 |.bl _,b,e=>by simp only[Ev.dW]at e;cases e;rfl
 |.int _,b,e=>by simp only[Ev.dW]at e;cases e;rfl
 |.str _,b,e=>by simp only[Ev.dW]at e;cases e;rfl
 |.tup _,b,e=>by simp only[Ev.dW]at e;cases e;rfl
 |.ref a,b,e=>by
  simp only[Ev.dW,aab]at e;obtain⟨_,_,rfl⟩:=e;rfl
theorem Dk{h:Hh}:∀{ys:List D}{k:Nat},Ev.cnt h .aD ys=some k->(∀y∈ys,Ev.dW h Ev.deep y .aD=some (wK y))/\k=ys.countP (wK)
 |[],k,e=>by cases e;simp
 |y :: ys,k,e=>by
  simp only[Ev.cnt,abD,aah]at e;obtain⟨b,c,m,d,f⟩:=e;have g:=NU (n:=19) c;subst g;obtain⟨i,rfl⟩:=Dk d;refine⟨λz a=>?_,?_⟩
  .rcases List.mem_cons.mp a with rfl|a
   .exact c
   .exact i z a
  .cases f;rw[List.countP_cons];split<;>rfl
noncomputable def Gk:Value->Bool
 |.none=>true
 |_=>false
def IB{K:List (Addr×Obj)}{H:Hp}{r:List Addr}{y:D}{v:V}{u:Value}(h1:RV K H r y v)(h2:RelV v u):Gk u=wK y:=by
 cases y with
 |str a=>
  simp only[RV]at h1;obtain⟨rfl,_⟩:=h1;obtain⟨k,rfl⟩:=h2;rfl
 |ref n=>
  simp only[RV]at h1;obtain⟨p,rfl,_⟩:=h1;cases h2;rfl
 |tup n=>
  simp only[RV]at h1;obtain⟨p,_,rfl,_⟩:=h1;cases h2;rfl
 |aD=>simp only[RV]at h1;subst h1;cases h2;rfl
 |bl b=>simp only[RV]at h1;subst h1;cases h2;rfl
 |int b=>simp only[RV]at h1;subst h1;obtain⟨k,rfl⟩:=h2;rfl
theorem zV{K:List (Addr×Obj)}{H:Hp}{r:List Addr}:∀{ys:List D}{vs:List V}{us:List Value},aH K H r ys vs->Vals vs us->us.countP (Gk)=ys.countP (wK)
 |[],_,us,h1,h2=>by simp only[aH]at h1;subst h1;cases h2;rfl
 |y :: ys,_,us,h1,h2=>by
  simp only[aH]at h1;obtain⟨v,w,rfl,c,d⟩:=h1;cases h2 with
  |cons a b=>rw[List.countP_cons,List.countP_cons,zV d b,IB c a]
section
variable{G:Tb}{n:Nat}{sc:Scope}{N:List Str}{df:Bool}{X:Cx}
def Gm (g:Good G n sc N df X):rF X "list.count" (uv X.K (Ev.eF .count)):=by
 intro pins s σ H x xs v b Q I rx rs q;obtain⟨r,h,a,as,d,h',f,v1,i,e,q⟩:=q;have hu:=g.units;cases a with
 |ref m=>
  match as,e with
  |[.str t],e=>
   delta Ev.eF at e;dsimp only at e
   obtain⟨W,Y⟩:=Ev.aF e;subst Y;obtain⟨k,l,rfl⟩:=Option.map_eq_some_iff.mp W;simp only[aah]at l;obtain⟨ds,Z,e4⟩:=l;obtain⟨h1,rfl⟩:=Dj e4;obtain⟨p,rfl,z⟩:=v1.shape;cases rx;have v2':=i;simp only[aH]at i;obtain⟨y,w,rfl,v3,rfl⟩:=i;obtain⟨u,rfl,ru⟩:=vals1 rs;obtain⟨p',vs,o,q1,w⟩:=f.read Z;rw[z]at o;cases o;obtain⟨b,pv,pl,_⟩:=I.list q1;obtain⟨⟨cls,dd,B,sl⟩,C,J,nn,L⟩:=id pl.isList;simp only at J L;subst J L;refine abr PySem.F.slot_list_count ⟨_,C,rfl⟩ PySem.F.entry_list_count (PySem.F.args_list_count_2 _ _) (list_countAt p b.toArray nn dd sl u (Gj t)) ⟨C,λy hy=>?_,?_⟩
   .have c:y∈b:=by simpa using hy
    obtain⟨j,hj,rfl⟩:=List.getElem_of_mem c;have l1:=w.length;have l2:=pv.length;have ha:ds[j]?=some ds[j]:=QJ (by omega);obtain⟨va,a1,M⟩:=w.get ha;obtain⟨u',a3,P⟩:=pv.get a1;have eu:b[j]=u':=(List.getElem?_eq_some_iff.mp a3).2;rw[eu,IA M P];exact(vt I f Ev.deep X.A.in1 _ _ _ _ _ _ _ (by show X.A.units+1+Ev.deep<cLine;exact hu) M v3 P ru (h1 _ (List.getElem_mem _))).eq
   .rw[show b.toArray.toList=b from rfl,zU w pv];exact⟨.int _,H,I.tok _,⟨_,rfl⟩,q.here (by simp[RV]) f⟩
  |[.aD],e=>
   delta Ev.eF at e;dsimp only at e
   obtain⟨W,Y⟩:=Ev.aF e;subst Y;obtain⟨k,l,rfl⟩:=Option.map_eq_some_iff.mp W;simp only[aah]at l;obtain⟨ds,Z,e4⟩:=l;obtain⟨h1,rfl⟩:=Dk e4;obtain⟨p,rfl,z⟩:=v1.shape;cases rx;have v2':=i;simp only[aH]at i;obtain⟨y,w,rfl,v3,rfl⟩:=i;obtain⟨u,rfl,ru⟩:=vals1 rs;obtain⟨p',vs,o,q1,w⟩:=f.read Z;rw[z]at o;cases o;obtain⟨b,pv,pl,_⟩:=I.list q1;obtain⟨⟨cls,dd,B,sl⟩,C,J,nn,L⟩:=id pl.isList;simp only at J L;subst J L;refine abr PySem.F.slot_list_count ⟨_,C,rfl⟩ PySem.F.entry_list_count (PySem.F.args_list_count_2 _ _) (list_countAt p b.toArray nn dd sl u Gk) ⟨C,λy hy=>?_,?_⟩
   .have c:y∈b:=by simpa using hy
    obtain⟨j,hj,rfl⟩:=List.getElem_of_mem c;have l1:=w.length;have l2:=pv.length;have ha:ds[j]?=some ds[j]:=QJ (by omega);obtain⟨va,a1,M⟩:=w.get ha;obtain⟨u',a3,P⟩:=pv.get a1;have eu:b[j]=u':=(List.getElem?_eq_some_iff.mp a3).2;rw[eu,IB M P];exact(vt I f Ev.deep X.A.in1 _ _ _ _ _ _ _ (by show X.A.units+1+Ev.deep<cLine;exact hu) M v3 P ru (h1 _ (List.getElem_mem _))).eq
   .rw[show b.toArray.toList=b from rfl,zV w pv];exact⟨.int _,H,I.tok _,⟨_,rfl⟩,q.here (by simp[RV]) f⟩
 |_=>cases e
end
section
variable{X:Cx}
def NV(n:Nat)(i:Int):Ev.eV n i=L2.eV n i:=rfl
def NW{α:Type}(xs:List α)(i:Int):Ev.bU xs i=L2.bU xs i:=rfl
theorem aH.bU{K:PySem.W.Frag}{H:Hp}{r:List Addr}{ds:List D}{vs:List V}{i:Int}{d:D}(w:aH K H r ds vs)(e:Ev.bU ds i=some d):∃v,L2.bU vs i=some v/\RV K H r d v:=by
 unfold Ev.bU at e;obtain⟨j,a,b⟩:=Option.bind_eq_some_iff.mp e;obtain⟨v,c,f⟩:=w.get b;exact⟨v,by unfold L2.bU;rw[w.length,<-NV,a];exact c,f⟩
def To:zF X (iU X.K Nl):=by
 intro f g j s σ H x y v u Q I rx ry q hs;obtain⟨r,h,a,b,d,Y,o,A,M,e,q⟩:=q;obtain⟨e,rfl⟩:=Ev.aF e;cases b with
 |int i=>
  have s2:=M.shape;cases a with
  |tup ds=>
   obtain⟨p,B,rfl,z,w⟩:=A.shape;obtain⟨C,F,G⟩:=w.bU e;exact MP f g j s σ H _ y v u Q I rx ry ⟨p,B,i,C,rfl,s2,z,F,q.here G o⟩ hs
  |str l=>
   simp only[RV]at A;obtain⟨rfl,N⟩:=A;simp only[Ev.gj,aab]at e;obtain⟨c,J,rfl⟩:=e;exact MQ f g j s σ H _ y v u Q I rx ry ⟨aO l,i,c,rfl,s2,by rw[dz];exact N,by simpa[aO,NW]using J,q.here ⟨rfl,by show 1<=sizeLine;decide⟩ o⟩ hs
  |ref m=>
   simp only[Ev.gj,aah]at e;obtain⟨ds,J,P⟩:=e;obtain⟨p,rfl,z⟩:=A.shape;obtain⟨Z,B,L,W,w⟩:=o.read J;rw[z]at L;cases L;obtain⟨C,F,G⟩:=w.bU P;exact Ka f g j s σ H _ y v u Q I rx ry ⟨p,B,i,C,rfl,s2,W,F,q.here G o⟩ hs
  |_=>cases e
 |_=>cases a<;>cases e
theorem aH.cut{K:PySem.W.Frag}{H:Hp}{r:List Addr}{ds:List D}{vs:List V}(w:aH K H r ds vs)(lo hi:Option Int):aH K H r (Ev.cut ds lo hi) (oF vs lo hi):=by
 unfold Ev.cut oF;rw[w.length];exact(w.drop _).take _
def uG{α:Type}(xs:List α)(lo hi:Option Int)(h:Ev.bg xs.length 0 lo=0/\Ev.bg xs.length xs.length hi=xs.length):Ev.cut xs lo hi=xs:=by
 unfold Ev.cut;rw[h.1,h.2];simp
def KJ{α:Type}(xs:List α)(lo hi:Option Int):(Ev.cut xs lo hi).length<=xs.length:=by
 unfold Ev.cut;rw[abA,abZ];omega
def vd{prog:Program}{w:World}{A:Around}{E:Value->Shared->Prop}{s:Shared}{t sl:Addr}{items:Array Value}{vl vu:Value}{lo hi:Option Int}{Q:Value->Shared->Prop}(ht:IsTup s.heap t items)(hs:s.heap.IsSliceOf sl vl vu .none)(pl:IsPart vl lo)(pu:IsPart vu hi)
  (hw:HT.bg items.size 0 lo=0/\HT.bg items.size items.size hi=items.size) (h:Q (.ref t) s):wpAny (model prog w) A (getItem (.ref t) (.ref sl)) Q E s:=by
 obtain⟨d,b,c,e⟩:=id hs;have MN:s.TypeIs (.ref sl) "slice" :=⟨d,b,c⟩
 unfold getItem;try with_reducible refine wpAny_holding ?_
 first|refine gV (aaf ?_)|skip
 refine gV (wpAny_sequenceKey ht.typeIs (by decide) ?_);refine gV (abq (name:=Str.ofString "__getitem__") ht.typeIs aa3
  (abm aa3 ht.typeIs entry_tuple_getitem ?_ (args_tuple_getitem _ _)))
 show wpAny _ _ (Builtin.Tuple.tupleItemsOf (.ref t) >>= _) _ _ s;refine gV (tupleItemsOf_ ht ?_);refine gV (acm MN ?_);rw[LV (by decide)];refine gV (HT.ko hs pl pu ?_);have a:(((HT.bg items.size 0 lo:Nat):Int)==0&&(1:Int)==1&&(HT.bg items.size items.size hi - HT.bg items.size 0 lo)==items.size)=true:=by
  rw[hw.1,hw.2];simp
 show wpAny _ _ (if (((HT.bg items.size 0 lo:Nat):Int)==0&&(1:Int)==1&&(HT.bg items.size items.size hi - HT.bg items.size 0 lo)==items.size)=true then _ else _) _ _ s;rw[LV a];refine gV (m:=Builtin.Tuple.tupleIsExact (.ref t)) (gV (acm ht.typeIs (aaf ?_)));show wpAny _ _ (if ((Value.type "tuple" ==Value.type "tuple")=true)then _ else _) _ _ s;rw[LV (by decide)];exact gV (acR (gV (aaf (aaf ⟨_,rfl,aaf h⟩))))
def Dl(lo hi:Option Int)(n:Nat):Builtin.Str.strSliceIndices lo hi 1 n=(List.range (Ev.bg n n hi - Ev.bg n 0 lo)).map (λk=>Ev.bg n 0 lo+k):=by
 have NY:∀o:Option Int,((match o with|none=>(0:Int)|some i=>max 0 (min (if i<0 then i+(n:Int)else i) (n:Int))))=((Ev.bg n 0 o:Nat):Int):=λo=>by
  cases o with
  |none=>rfl
  |some i=>simp only[Ev.bg];split<;>omega
 have NZ:∀o:Option Int,((match o with|none=>(n:Int)|some i=>max 0 (min (if i<0 then i+(n:Int)else i) (n:Int))))=((Ev.bg n n o:Nat):Int):=λo=>by
  cases o with
  |none=>rfl
  |some i=>simp only[Ev.bg];split<;>omega
 have e:Builtin.Str.strSliceIndices lo hi 1 n=sliceRange (match lo with|none=>(0:Int)|some i=>max 0 (min (if i<0 then i+(n:Int)else i) (n:Int))) (match hi with|none=>(n:Int)|some i=>max 0 (min (if i<0 then i+(n:Int)else i) (n:Int))) 1:=by
  unfold Builtin.Str.strSliceIndices;cases lo<;>cases hi<;>simp
 rw[e,NY,NZ,sliceRange_one]
def N1(l:List Nat)(lo hi:Option Int):((Builtin.Str.strSliceIndices lo hi 1 (aO l).length).filterMap ((aO l).cps[·]?)).toArray=(Ev.cut l lo hi).toArray:=by
 rw[dz,Dl,pick_run];simp[aO,Ev.cut]
def N2:kR X (M8 X.K):=by
 intro b s σ H x v vl vu lo hi sl Q I rx hs pl pu q;obtain⟨r,h,a,d,h',y,C,e,q⟩:=q;cases a with
 |tup ds=>
  cases e;obtain⟨p,c,rfl,z,w⟩:=C.shape;by_cases G:HT.bg c.length 0 lo=0/\HT.bg c.length c.length hi=c.length
  .cases rx;obtain⟨us,pv,pt,hz⟩:=I.tuple z;have Y:=pv.length;have XY:Ev.bg ds.length 0 lo=0/\Ev.bg ds.length ds.length hi=ds.length:=by rw[<-w.length];exact G
   refine⟨"tuple",_,PyProof.Rows.slot_tuple_getitem.lookup,pt.typeIs,?_⟩;refine vd pt hs pl pu (by rw[Xm,<-Y];exact G) ⟨.ref p,H,I,rfl,q.here ?_ y⟩;rw[uG ds lo hi XY];exact⟨p,c,rfl,z,w⟩
  .exact MO b s σ H _ v vl vu lo hi sl Q I rx hs pl pu ⟨p,c,rfl,z,G,λp' J=>q.tup (w.cut lo hi) y J⟩
 |str l=>
  simp only[RV]at C;obtain⟨rfl,Y⟩:=C;obtain⟨t,rfl⟩:=rx;cases e;refine⟨"str",_,PySem.F.slot_str_getitem.lookup,typeIs_str s _ t,?_⟩;have f:∀{v:Value} {o:Option Int},IsPart v o->∃p:Option (Int×Tok),v=partValue p/\p.map (·.1)=o:=λ{v o} J=>by
   cases J with
   |none=>exact⟨none,rfl,rfl⟩
   |int i t=>exact⟨some (i,t),rfl,rfl⟩
  obtain⟨g,L,Z⟩:=f pl;obtain⟨j,e3,e4⟩:=f pu;subst L e3;obtain⟨os,M,N,P⟩:=hs;refine wpAny_getItem_str_slice (l:=g) (u:=j) (st:=none) ⟨os,M,N,P⟩ rfl ?_;have IC:((slicePicked (aO l) g j none).filterMap ((aO l).cps[·]?)).toArray=(Ev.cut l lo hi).toArray:=by
   show((Builtin.Str.strSliceIndices (g.map (·.1)) (j.map (·.1)) 1 (aO l).length).filterMap ((aO l).cps[·]?)).toArray=_;rw[Z,e4];exact N1 l lo hi
  have hcl:=KJ l lo hi;unfold sliceMade;refine post_val_or_made (λ_=>?_) λt' k=>?_
  .rw[IC];show(Ev.cut l lo hi).toArray.size<=sizeLine;simp only[Xm];omega
  .have A:(if (((none:Option (Int×Tok)).map (·.1)).getD 1==1&&(slicePicked (aO l) g j none).length==(aO l).length)=true then aO l else (⟨((slicePicked (aO l) g j none).filterMap ((aO l).cps[·]?)).toArray⟩:Str))=aO (Ev.cut l lo hi):=by
    split
    .rename_i hc;rw[W2]at hc;have B:(slicePicked (aO l) g j none).length=(aO l).length:=eq_of_beq hc.2;have W:(slicePicked (aO l) g j none).length=Ev.bg l.length l.length hi - Ev.bg l.length 0 lo:=by
      show(Builtin.Str.strSliceIndices (g.map (·.1)) (j.map (·.1)) 1 (aO l).length).length=_;rw[Z,e4,Dl,dz];simp
     rw[dz]at B;have hb:Ev.bg l.length l.length hi<=l.length:=HT.vW _ _ (aae _) hi;have ha:Ev.bg l.length 0 lo<=l.length:=HT.vW _ _ (aaU _) lo;rw[uG l lo hi ⟨by omega,by omega⟩]
    .rw[IC];rfl
   rw[A];exact⟨.str (aO (Ev.cut l lo hi)),H,I.tok _,⟨_,rfl⟩,q.here ⟨rfl,by omega⟩ y⟩
 |ref m=>
  simp only[Ev.fX]at e;split at e
  .rename_i ds L;obtain⟨p,rfl,z⟩:=C.shape;obtain⟨p',c,z',q1,w⟩:=y.read L;rw[z]at z';cases z';obtain⟨hz,q2⟩:=q.lst e (w.cut lo hi) y;exact Kc b s σ H _ v vl vu lo hi sl Q I rx hs pl pu ⟨p,c,rfl,q1,q2⟩
  .cases e
 |_=>cases e
theorem wL:∀(k:Nat) (l:List Nat) (acc:List Nat),(List.replicate k l.toArray).foldl (·++·) acc.toArray=(acc++Ev.rep k l).toArray
 |0,l,acc=>by simp[Ev.rep]
 |k+1,l,acc=>by
  rw[aak,aaL];have:acc.toArray++l.toArray=(acc++l).toArray:=by simp
  rw[this,wL k l (acc++l)];simp[Ev.rep,aak]
def pR{α:Type}(k:Nat)(l:List α):(Ev.rep k l).length=k*l.length:=by
 unfold Ev.rep;exact len_rep l k
def KL{l:List Nat}{k:Int}(h:0<=k):Txt.mul (aO l) k=aO (Ev.rep k.toNat l):=by
 unfold Txt.mul;by_cases b:k<1
 .have:k=0:=by omega
  subst this;rw[LV (by decide)];rfl
 .rw[aaj b];split
  .rename_i a;rw[aaR]at a;rcases a with a|a
   .have:k=1:=by simpa using a
    subst this;simp[Ev.rep]
   .rw[dz]at a;have:l=[]:=by cases l with|nil=>rfl|cons _ _=>simp at a
    subst this;simp[Ev.rep,aO]
  .show(⟨(List.replicate k.toNat (aO l).cps).foldl (·++·) #[]⟩:Str)=_;have:=wL k.toNat l [];simp only[acD]at this;exact aau Str.mk this
def kX{a b:Nat}(h1:a<=1000)(h2:b<=1000):a*b<=sizeLine:=aas (abO h1 h2) (by decide)
def KN{pins:List (Addr×Obj)}{σ:L2.St}{H:Hp}{s:Shared}{Q:VK}(I:Inv X pins σ H s){l:List Nat}{k:Int}{t u:Tok}(hk:0<=k/\k<=1000/\l.length<=1000)(q:Q (.str (aO (Ev.rep k.toNat l))) H) :
  wpAny (model X.prog X.w) X.A (binaryOp .Mult (.str (aO l) t) (.int k u)) (EP X pins σ Q) X.xe s:=by
 have a:MulOk (aO l) k:=mulOk_of 1000 1000 (by rw[dz];exact hk.2.2) (by exact hk.2.1) (by omega) (by decide) (by decide);refine SB.mul a λb c=>?_;rw[KL hk.1];exact⟨.str _,H,I.tok _,⟨_,rfl⟩,q⟩
def qO:fillsNumberSlot (.type "tuple") "mul" = pure false:=
 PySem.fillsNumberSlot_seq (id:="tuple.__mul__") (r:=some (.builtin "tuple.__rmul__")) PySem.F.slot_tuple_mul.lookup (by decide +kernel) PySem.F.slot_tuple_rmul.lookup (by decide +kernel)
def wN:seqRepeat? (.type "tuple")=pure (some (.builtin "tuple.__mul__")):=by
 unfold seqRepeat?;rw[PySem.seqSlot_of (T:="tuple") (name:="__mul__") (id:="tuple.__mul__") PySem.F.slot_tuple_mul.lookup (by decide +kernel),PySem.seqSlot_of (T:="tuple") (name:="__rmul__") (id:="tuple.__rmul__") PySem.F.slot_tuple_rmul.lookup (by decide +kernel)];rfl
def By(a:Int)(t:Tok)(l:Addr)(items:Array Value)(n:Nat)(dd:Option Addr)(sl:Array (Option Value)) :
  Meets (Builtin.«int.__rmul__» ⟨[.int a t,.ref l],[]⟩) (λ_ R s=>s.heap.get? l=some { cls:=.type "tuple",dict:=dd,data:=.seq items n,slots:=sl }/\R (.ok (.ret Value.notImplemented)) s):=
 .of_wp λprog w A R s h=>by obtain⟨b,g,d,tk,c⟩:=s;obtain⟨e,h⟩:=h;wp_walk;exact⟨_,rfl,h⟩
def BA(l:Addr)(items:Array Value)(n:Nat)(dd:Option Addr)(sl:Array (Option Value))(k:Int)(u:Tok)(h1:¬ (decide (k < -2 ^ 63) ||decide (k≥2 ^ 63))=true)(h3:(items.isEmpty ||k==1)=true) :
  Meets (Builtin.«tuple.__mul__» ⟨[.ref l,.int k u],[]⟩) (λ_ R s=>s.heap.get? l=some { cls:=.type "tuple",dict:=dd,data:=.seq items n,slots:=sl }/\R (.ok (.ret (.ref l))) s):=
 .of_wp λprog w A R s h=>by obtain⟨b,g,d,tk,c⟩:=s;obtain⟨a,h⟩:=h;have f1:=acv;wp_walk using aaK a;rw[aaj h1];wp_walk using aaK a;exact⟨_,rfl,h⟩
def BB(l:Addr)(items:Array Value)(n:Nat)(dd:Option Addr)(sl:Array (Option Value))(k:Int)(u:Tok)(h1:¬ (decide (k < -2 ^ 63) ||decide (k≥2 ^ 63))=true)(h3:¬ (items.isEmpty ||k==1)=true)(h4:(decide (k<=0) ||items.isEmpty)=true) :
  Meets (Builtin.«tuple.__mul__» ⟨[.ref l,.int k u],[]⟩) (λ_ R s=>s.heap.get? l=some { cls:=.type "tuple",dict:=dd,data:=.seq items n,slots:=sl }/\R (.ok (.ret (Value.ref s.heap.objs.size))) { s with heap:=s.heap.push { cls:=Value.type "tuple",data:=Data.seq #[]},toks:=s.toks }):=
 .of_wp λprog w A R s h=>by obtain⟨b,g,d,tk,c⟩:=s;obtain⟨a,h⟩:=h;have f1:=acv;wp_walk using aaK a;rw[aaj h1];wp_walk using aaK a;exact⟨_,rfl,h⟩
def BC(l:Addr)(items:Array Value)(n:Nat)(dd:Option Addr)(sl:Array (Option Value))(k:Int)(u:Tok)(h1:¬ (decide (k < -2 ^ 63) ||decide (k≥2 ^ 63))=true)(h3:¬ (items.isEmpty ||k==1)=true)(h4:¬ (decide (k<=0) ||items.isEmpty)=true)
  (h5:¬ (items.size*k > (2 ^ 63 - 1) / 8)) (h6:¬ Builtin.Tuple.tupleTooMany (items.size*k)=true) (hsz:(List.foldl (λx1 x2=>x1++x2) #[] (List.replicate k.toNat items)).size<=sizeLine) :
  Meets (Builtin.«tuple.__mul__» ⟨[.ref l,.int k u],[]⟩) (λ_ R s=>s.heap.get? l=some { cls:=.type "tuple",dict:=dd,data:=.seq items n,slots:=sl }/\R (.ok (.ret (Value.ref s.heap.objs.size))) { s with heap:=s.heap.push { cls:=Value.type "tuple",data:=Data.seq (List.foldl (λx1 x2=>x1++x2) #[] (List.replicate k.toNat items))},toks:=s.toks }):=
 .of_wp λprog w A R s h=>by obtain⟨b,g,d,tk,c⟩:=s;obtain⟨a,h⟩:=h;have f1:=acv;wp_walk using aaK a;rw[aaj h1];wp_walk using aaK a;rw[aaj h5];wp_walk using aaK a;exact⟨_,rfl,h⟩
theorem uH:∀(k:Nat) (l acc:List Value),(List.replicate k l.toArray).foldl (·++·) acc.toArray=(acc++Ev.rep k l).toArray
 |0,l,acc=>by simp[Ev.rep]
 |k+1,l,acc=>by
  rw[aak,aaL];have:acc.toArray++l.toArray=(acc++l).toArray:=by simp
  rw[this,uH k l (acc++l)];simp[Ev.rep,aak]
def KO{pins:List (Addr×Obj)}{σ:L2.St}{H:Hp}{s:Shared}{Q:VK}(I:Inv X pins σ H s){p:Addr}{vs:List V}{k:Int}{u:Tok}(hk:0<=k/\k<=1000/\vs.length<=1000)(hp:dQ X.K H p vs)
  (q1:Ev.rep k.toNat vs=vs->Q (.ref p) H) (q2:∀p',H p'=none->Q (.ref p') (upd H p' (.tup (Ev.rep k.toNat vs)))) :
  wpAny (model X.prog X.w) X.A (binaryOp .Mult (.ref p) (.int k u)) (EP X pins σ Q) X.xe s:=by
 obtain⟨a,pv,pt,J⟩:=I.tuple hp;obtain⟨⟨cls,dd,data,g⟩,d,j,n,l⟩:=id pt;simp only at j l;subst j l;have L:=pv.length;have h:¬ (decide (k < -2 ^ 63) ||decide (k≥2 ^ 63))=true:=by simp;omega
 refine aci (T:="tuple") (U:="int") (by decide) ⟨_,d,rfl⟩ (λz=>ach z k u) qO PySem.F.fills_int_mul acN wN PySem.F.slot_int_index.lookup
  (abr acN (ach s k u) PySem.F.entry_int_rmul (PySem.F.args_int_rmul_2 _ _) (By k u p a.toArray n dd g) ⟨d,rfl,⟨_,d,rfl⟩,?_⟩)
 have r:∀m:Nat,(Ev.rep m a).length=m*a.length:=λm=>pR m a;by_cases c:(a.toArray.isEmpty ||k==1)=true
 .refine abr abV ⟨_,d,rfl⟩ abQ (abM _ _) (BA p a.toArray n dd g k u h c) ⟨d,?_⟩;refine⟨.ref p,H,I,rfl,q1 ?_⟩;rw[aaR]at c;rcases c with c|c
  .have:a=[]:=by simpa using c
   subst this;cases pv;simp[Ev.rep]
  .have:k=1:=by simpa using c
   subst this;simp[Ev.rep]
 .have laid:∀m:Nat,m=k.toNat->EP X pins σ Q (.ref s.heap.objs.size) { s with heap:=s.heap.push { cls:=.type "tuple",data:=.seq (Ev.rep m a).toArray }}:=λm x=>by
   subst x;refine⟨.ref s.heap.objs.size,_,I.laid (t':=s.toks) (o:=.tup (Ev.rep k.toNat vs)) (λb M q=>aac _ q) (aae _) ?_,rfl,q2 _ (I.hok.fresh (aae _))⟩;exact⟨by rw[pR];exact kX (by omega) hk.2.2,_,pv.rep k.toNat,IsTup.new _ _⟩
  by_cases f:(decide (k<=0) ||a.toArray.isEmpty)=true
  .refine abr abV ⟨_,d,rfl⟩ abQ (abM _ _) (BB p a.toArray n dd g k u h c f) ⟨d,?_⟩;have i:k=0:=by
    rw[aaR]at f c;rcases f with f|f
    .have:k<=0:=aaN f;omega
    .exact absurd (.inl f) c
   have:=laid 0 (by rw[i];rfl);exact this
  .have x:a.toArray.size*k.toNat<=1000000:=by
    rw[Xm];exact abO (by omega:a.length<=1000) (by omega:k.toNat<=1000)
   have B:(a.toArray.size:Int)*k<=1000000:=by
    have e:(a.toArray.size:Int)*k=((a.toArray.size*k.toNat:Nat):Int):=by
     rw[Int.natCast_mul,Int.toNat_of_nonneg hk.1]
    rw[e];omega
   have y:List.foldl (λC G=>C++G) #[] (List.replicate k.toNat a.toArray)=(Ev.rep k.toNat a).toArray:=by
    have:=uH k.toNat a [];simpa using this
   refine abr abV ⟨_,d,rfl⟩ abQ (abM _ _) (BC p a.toArray n dd g k u h c f (by omega) ?_ ?_) ⟨d,?_⟩
   .unfold Builtin.Tuple.tupleTooMany;simp only[aa4];have:(sizeLine:Int)=16777216:=by rw[aa8];rfl
    omega
   .rw[y];simp only[Xm];rw[pR];exact kX (by omega) (by omega)
   .rw[y];exact laid _ rfl
def N3:eg X (binaryOp .Mult) (iU X.K (Ev.bW .mul)):=by
 intro f s σ H x y v u Q I rx ry q;obtain⟨r,h,a,b,d,W,g,j,C,e,q⟩:=q;cases b with
 |int k=>
  have s2:=C.shape;simp only[cH]at s2;subst s2;cases a with
  |int i=>
   delta Ev.bW at e;dsimp only at e
   split at e
   .rename_i c;cases e;refine MC f s σ H x _ v u Q I rx ry ⟨i,k,j,rfl,?_,q.here rfl g⟩;unfold Ev.cG at c;simp only[aaR,W2,aa4]at c;exact c
   .cases e
  |str l=>
   delta Ev.bW at e;dsimp only at e
   split at e
   .rename_i c;cases e;simp only[RV]at j;obtain⟨rfl,Y⟩:=j;obtain⟨t,rfl⟩:=rx;obtain⟨F,rfl⟩:=ry;exact KN I c (q.here ⟨rfl,by rw[pR];exact kX (by omega) c.2.2⟩ g)
   .cases e
  |tup ds=>
   delta Ev.bW at e;dsimp only at e
   split at e
   .rename_i c;cases e;obtain⟨p,o,rfl,z,w⟩:=j.shape;cases rx;obtain⟨F,rfl⟩:=ry;refine KO I ⟨c.1,c.2.1,by rw[w.length];exact c.2.2⟩ z (λXZ=>q.here ⟨p,o,rfl,z,?_⟩ g) λG J=>q.tup (w.rep k.toNat) g J;have:=w.rep k.toNat;rw[XZ]at this;exact this
   .cases e
  |ref i=>
   delta Ev.bW at e;dsimp only at e
   split at e
   .rename_i ds L;split at e
    .rename_i c;obtain⟨p,rfl,z⟩:=j.shape;obtain⟨G,A,o,M,B⟩:=g.ob _ _ L;rw[z]at A;cases A;obtain⟨N,P⟩:=q.lst e (B.rep k.toNat) g;exact MV f s σ H (.ref p) _ v u Q I rx ry ⟨p,k,o,rfl,rfl,M,by omega,by omega,kX (by rw[B.length];exact c.2.2) (by omega),P⟩
    .cases e
   .cases e
  |_=>cases e
 |_=>cases a<;>cases e
end
section
variable{X:Cx}
theorem zW{K:PySem.W.Frag}{H:Hp}{r:List Addr}:∀{ds:List D}{is:List Int}{vs:List V}{us:List Value},Ev.intsOf ds=some is->aH K H r ds vs->Vals vs us->IntsAre us is
 |[],bs,vs,us,e,w,p=>by
  cases e;simp only[aH]at w;subst w;cases p;exact .nil
 |d :: ds,bs,vs,us,e,w,p=>by
  cases d with
  |int b=>
   simp only[Ev.intsOf,aab]at e;obtain⟨a,c,rfl⟩:=e;simp only[aH,RV]at w;obtain⟨v,i,rfl,rfl,f⟩:=w;cases p with
   |cons g h=>
    obtain⟨t,rfl⟩:=g;exact .cons _ _ (zW c f h)
  |_=>cases e
theorem pT{K:PySem.W.Frag}{H:Hp}{r:List Addr}:∀{ds:List D}{ss:List (List Nat)}{vs:List V}{us:List Value},Ev.strsOf ds=some ss->aH K H r ds vs->Vals vs us->StrsAre us (ss.map aO)/\∀l∈ss,l.length<=sizeLine
 |[],bs,vs,us,e,w,p=>by
  cases e;simp only[aH]at w;subst w;cases p;exact⟨.nil,λl h=>nomatch h⟩
 |d :: ds,bs,vs,us,e,w,p=>by
  cases d with
  |str b=>
   simp only[Ev.strsOf,aab]at e;obtain⟨a,c,rfl⟩:=e;simp only[aH,RV]at w;obtain⟨v,y,rfl,⟨rfl,f⟩,g⟩:=w;cases p with
   |cons i j=>
    obtain⟨t,rfl⟩:=i;obtain⟨o,q⟩:=pT c g j;refine⟨.cons _ _ o,λl x=>?_⟩;rcases List.mem_cons.mp x with z|z
    .subst z;exact f
    .exact q l z
  |_=>cases e
variable{G:Tb}{n:Nat}{sc:Scope}{N:List Str}{df:Bool}
def N4 (g:Good G n sc N df X):gi X (.builtin "sum") (wu X.K (Ev.cY .sum)):=by
 intro i s σ H xs us Q I r q;obtain⟨Y,h,A,d,Z,j,l,e,q⟩:=q
 match A,e with
 |[.ref m],e=>
  obtain⟨e,rfl⟩:=Ev.aF e;simp only[aab,aah]at e;obtain⟨is,⟨ds,B,C⟩,rfl⟩:=e;simp only[aH,RV]at l;obtain⟨v,w,rfl,⟨p,rfl,z⟩,rfl⟩:=l;obtain⟨u,rfl,F⟩:=vals1 r;cases F;obtain⟨p',vs,o,J,w⟩:=j.read B;rw[z]at o;cases o;obtain⟨c,pv,L,_⟩:=I.list J;have x:=zW C w pv;obtain⟨f,a⟩:=(x.allInts).items;have M:s.heap.IsList p (intItems f):=by rw[<-a];exact L.isList
  refine sum_intListG (I.ok.hd g.calm) M λP tk t' W=>?_;have b:preSum (numAt f) f.size=is.sum:=by
   have y:numsOf c.toArray.toList=is:=by rw[show c.toArray.toList=c from rfl];exact x.numsOf
   rw[a,nums_intItems]at y;rw[preSum_eq,aaM (by simp),y]
  rw[b];exact⟨.int is.sum,H,I.kept W,⟨_,rfl⟩,q.here rfl j⟩
def N5:gi X (.builtin "len") (wu X.K (Ev.cY .len)):=by
 intro a s σ H xs us Q I r q;obtain⟨A,h,i,d,B,c,b,e,q⟩:=q
 match i,e with
 |[.str l],e=>
  delta Ev.cY at e;dsimp only at e
  split at e
  .cases e;simp only[aH,RV]at b;obtain⟨v,w,rfl,⟨rfl,j⟩,rfl⟩:=b;refine vY a s σ H _ us Q I r ⟨_,rfl,by rw[dz];exact j,?_⟩;rw[dz];exact q.here rfl c
  .cases e
 |[.tup ds],e=>
  cases e;simp only[aH,RV]at b;obtain⟨v,w,rfl,⟨p,f,rfl,z,o⟩,rfl⟩:=b;refine oG a s σ H _ us Q I r ⟨p,f,rfl,.inr z,?_⟩;rw[o.length];exact q.here rfl c
 |[.ref m],e=>
  obtain⟨e,rfl⟩:=Ev.aF e;simp only[aab]at e;obtain⟨ds,x,rfl⟩:=e;simp only[aH,RV]at b;obtain⟨v,w,rfl,⟨p,rfl,z⟩,rfl⟩:=b;obtain⟨C,f,g,y,w⟩:=c.read x;rw[z]at g;cases g;refine oG a s σ H _ us Q I r ⟨p,f,rfl,.inl y,?_⟩;rw[w.length];exact q.here rfl c
def N6 (g:Good G n sc N df X):gi X (.builtin "min") (wu X.K (Ev.cY .min)):=by
 intro a s σ H xs us Q I r q;obtain⟨l,h,c,d,o,f,b,e,q⟩:=q
 match c,e with
 |[.int i,.int j],e=>
  cases e;simp only[aH,RV]at b;obtain⟨v,w,rfl,rfl,p,x,rfl,rfl,rfl⟩:=b;exact CD g.calm a s σ H _ us Q I r ⟨i,j,rfl,q.here rfl f⟩
def Dm:rF X "list.append" (uv X.K (Ev.eF .append)):=by
 intro c s σ H x xs v us Q I rx rs q;obtain⟨r,h,a,F,d,M,i,J,j,e,q⟩:=q;cases a with
 |ref m=>
  match F,e with
  |[b],e=>
   delta Ev.eF at e;dsimp only at e
   split at e
   .rename_i ds l;split at e
    .rename_i o;cases e;rw[kB]at o;obtain⟨p,rfl,z⟩:=J.shape;simp only[aH]at j;obtain⟨y,w,rfl,L,rfl⟩:=j;obtain⟨P,A,B,g,C⟩:=i.ob _ _ l;rw[z]at A;cases A;refine um c s σ H _ _ v us Q I rx rs ⟨p,B,y,rfl,rfl,g,by rw[C.length];exact o,?_⟩;have f:=Fm.write (K:=X.K) (ws:=B++[y]) g (aag z);exact q _ _ r rfl (i.write l z g (C.append (.cons L .nil))) f
    .cases e
   .cases e
  |[],e=>cases e
  |_ :: _ :: _,e=>cases e
 |_=>cases e
def Dn:rF X "list.extend" (uv X.K (Ev.eF .extend)):=by
 intro b s σ H x xs v us Q I rx rs q;obtain⟨r,h,a,J,d,h',c,L,i,e,q⟩:=q;cases a with
 |ref m=>
  match J,e with
  |[.ref k],e=>
   delta Ev.eF at e;dsimp only at e
   split at e
   .rename_i ds es j M;split at e
    .rename_i l;cases e;rw[kB]at l;obtain⟨p,rfl,z⟩:=L.shape;simp only[aH,RV]at i;obtain⟨y,w,rfl,⟨P,rfl,W⟩,rfl⟩:=i;obtain⟨p',o,A,g,B⟩:=c.ob _ _ j;rw[z]at o;cases o;obtain⟨Y,C,ws,Z,F⟩:=c.ob _ _ M;rw[W]at C;cases C;refine CK b s σ H _ _ v us Q I rx rs ⟨p,P,A,ws,rfl,rfl,g,Z,by rw[B.length,F.length];exact l,?_⟩;have f:=Fm.write (K:=X.K) (ws:=A++ws) g (aag z);exact q _ _ r rfl (c.write j z g (B.append F)) f
    .cases e
   .cases e
 |_=>cases e
def N7:rF X "list.pop" (uv X.K (Ev.eF .pop)):=by
 intro b s σ H x xs v us Q I rx rs q;obtain⟨r,h,a,B,d,W,j,C,l,e,q⟩:=q;cases a with
 |ref m=>
  match B,e with
  |[],e=>
   delta Ev.eF at e;dsimp only at e
   split at e
   .rename_i ds o;split at e
    .rename_i y F;cases e;obtain⟨p,rfl,z⟩:=C.shape;simp only[aH]at l;subst l;obtain⟨Y,A,g,i,c⟩:=j.ob _ _ o;rw[z]at A;cases A;obtain⟨J,L,M⟩:=c.get F;refine MT b s σ H _ _ v us Q I rx rs ⟨p,g,J,rfl,rfl,i,by rw[c.length];exact L,?_⟩;have f:=Fm.write (K:=X.K) (ws:=g.dropLast) i (aag z);have P:aH X.K H r ds.dropLast g.dropLast:=by
      rw[aa2,aa2,c.length];exact c.take _
     exact q _ _ r (M.mono f) (j.write o z i P) f
    .cases e
   .cases e
  |_ :: _,e=>cases e
 |_=>cases e
theorem qP(sep:List Nat):∀ss:List (List Nat),Str.join (aO sep) (ss.map aO)=aO (Ev.cX sep ss)
 |[]=>rfl
 |[s]=>rfl
 |s :: t :: r=>by
  have a:=qP sep (t :: r);show aO s++aO sep++Str.join (aO sep) ((t :: r).map aO)=_;rw[a,tN,tN];rfl
def join_eq(sep:List Nat)(ss:List (List Nat)):Txt.join (aO sep) (ss.map aO)=aO (Ev.cX sep ss):=by
 rw[<-qP];exact PySem.StrLaws.glued_eq_join _ _
def KP:rF X "str.join" (uv X.K (Ev.eF .join)):=by
 intro i s σ H x xs v us Q I rx rs q;obtain⟨r,h,a,A,d,Y,j,o,p,e,q⟩:=q;cases a with
 |str b=>
  match A,e with
  |[.ref k],e=>
   delta Ev.eF at e;dsimp only at e
   split at e
   .rename_i g f;split at e
    .rename_i B;cases e;simp only[aah]at f;obtain⟨ds,f,C⟩:=f;simp only[RV]at o;obtain⟨rfl,Z⟩:=o;obtain⟨t,rfl⟩:=rx;simp only[aH,RV]at p;obtain⟨y,w,rfl,⟨p2,rfl,F⟩,rfl⟩:=p;obtain⟨u,rfl,J⟩:=vals1 rs;cases J;obtain⟨p',vs,z,L,w⟩:=j.read f;rw[F]at z;cases z;obtain⟨zs,pv,M,_⟩:=I.list L;obtain⟨P,g2⟩:=pT C w pv;have c:((g.map aO).map (·.length)).sum+(g.map aO).length*(aO b).length<=16777216:=by
      rw[ab0,aaq,dz];have:(λx:Str=>x.length) ∘ aO=λl:List Nat=>l.length:=funext λl=>dz l;rw[this];exact B
     refine join_list M.isList P c λt' k'=>?_;rw[join_eq];refine⟨.str _,H,I.tok _,⟨_,rfl⟩,q.here ⟨rfl,?_⟩ j⟩;have W:=PySem.StrLaws.join_length_le (aO b) (g.map aO);rw[qP,dz]at W;have:sizeLine=16777216:=aa8;omega
    .cases e
   .cases e
 |_=>cases e
end
section
variable{a:E}
theorem Vals.reverse{vs:List V}{us:List Value}(w:Vals vs us):Vals vs.reverse us.reverse:=by
 induction w with
 |nil=>exact .nil
 |cons a _ b=>rw[aaw,aaw];exact b.append (.cons a .nil)
end
section
variable{G:Tb}{n:Nat}{sc:Scope}{N:List Str}{df:Bool}{m:List Nat}{a c:E}{xa:Expr}{pos:Pos}
def Gp (g:Good G n sc N df X):gi X (.type "tuple") (λxs H Q=>∃r h d x d' h',HR X.K H r h/\RV X.K H r d x/\xs=[x]/\Ev.tE d h=.ok d' h'/\Res X.K r H h' d' Q):=by
 intro b s σ H xs us Q I rv q;obtain⟨r,h,d,x,d',h',f,j,rfl,e,q⟩:=q;cases d with
 |tup ds=>
  cases e;have A:=j;obtain⟨p,o,rfl,z,w⟩:=j.shape;exact nM b s σ H _ us Q I rv ⟨p,o,rfl,.inr ⟨z,q.here A f⟩⟩
 |ref i=>
  simp only[Ev.tE]at e;split at e
  .rename_i ds B;split at e
   .cases e;obtain⟨p,rfl,z⟩:=j.shape;obtain⟨J,o,y,C,w⟩:=f.read B;rw[z]at y;cases y;exact nM b s σ H _ us Q I rv ⟨p,o,rfl,.inl ⟨C,λl F=>q.tup w f F⟩⟩
   .cases e
  .cases e
 |_=>cases e
def N8 {p:Pos}(ha:JE G n sc N df m a xa) (h1:autoParam (("tuple" : Str)∈G.bl) zi._auto_1) (rT:autoParam (sc.names.lookup ("tuple" : Str)=some .globalImplicit) zb._auto_1)
  (hst:autoParam (∀env:Env,starEach [xa] env=[(false,eval xa env)]) zf._auto_1):JE G n sc N df m (.jT a) (.Call (.Name "tuple" p) [xa] [] pos):=λX g=>by
 refine PE.of (uh (Gp g) (g.gl rT) (g.bl _ h1) (by decide +kernel) (j7 (ha X g) mj (hst _)) (by decide) (by decide) (hst _) rfl) λs H Q q=>?_;obtain⟨r,f,h,d,i,j,l,e,q⟩:=q;simp only[Ev.ev]at e;obtain⟨x,o,y,e⟩:=Ev.ai e;refine⟨r,f,h,x,_,j,l,y,λv H1 z A b f1=>?_⟩;exact⟨z,o,x,v,d,i,b,A,rfl,e,q.later f1⟩
def N9{c:Nat}{st:Stmt}:JS G n sc N df m (.gp c) st:=λX g=>PS.of Fj λQ s H q=>by
 obtain⟨r,b,h,fl,d,f,i,j,e,q⟩:=q;simp only[Ev.fR]at e;cases e
end
theorem zX:∀{a b:List Nat},Ev.lexLe a b=true->Ev.lexLe b a=true->a=b
 |[],[],_,_=>rfl
 |[],_ :: _,_,h=>by simp[Ev.lexLe]at h
 |_ :: _,[],h,_=>by simp[Ev.lexLe]at h
 |x :: xs,y :: ys,h1,h2=>by
  simp only[Ev.lexLe]at h1 h2;by_cases e:x=y
  .subst e;simp only[aax]at h1 h2;rw[zX h1 h2]
  .rw[aaj e]at h1;rw[aaj (abk e)]at h2;simp at h1 h2;omega
theorem le_trans':∀{a b c:List Nat},Ev.lexLe a b=true->Ev.lexLe b c=true->Ev.lexLe a c=true
 |[],_,_,_,_=>by simp[Ev.lexLe]
 |_ :: _,[],_,h,_=>by simp[Ev.lexLe]at h
 |_ :: _,_ :: _,[],_,h=>by simp[Ev.lexLe]at h
 |x :: xs,y :: ys,z :: zs,h1,h2=>by
  simp only[Ev.lexLe]at h1 h2 ⊢;by_cases e:x=y
  .subst e;rw[LV rfl]at h1;by_cases f:x=z
   .subst f;rw[LV rfl]at h2 ⊢;exact le_trans' h1 h2
   .rw[aaj f]at h2 ⊢;exact h2
  .rw[aaj e]at h1;by_cases f:y=z
   .subst f;rw[aaj e];exact h1
   .rw[aaj f]at h2;simp at h1 h2;have:x≠z:=by omega
    rw[aaj this];simp;omega
theorem le_total':∀a b:List Nat,Ev.lexLe a b=false->Ev.lexLe b a=true
 |[],_,h=>by simp[Ev.lexLe]at h
 |_ :: _,[],_=>by simp[Ev.lexLe]
 |x :: xs,y :: ys,h=>by
  simp only[Ev.lexLe]at h ⊢;by_cases e:x=y
  .subst e;rw[LV rfl]at h ⊢;exact le_total' _ _ h
  .rw[aaj e]at h;rw[aaj (abk e)];simp at h ⊢;omega
abbrev Le(a b:List Nat):Prop:=Ev.lexLe a b=true
theorem qQ(x:List Nat):∀l,(Ev.m9 x l).Perm (x :: l)
 |[]=>.refl _
 |y :: l=>by
  simp only[Ev.m9];split
  .exact .refl _
  .exact((qQ x l).cons y).trans (.swap ..)
theorem rV(x:List Nat):∀{l},l.Pairwise Le->(Ev.m9 x l).Pairwise Le
 |[],_=>by simp[Ev.m9]
 |y :: l,h=>by
  obtain⟨c,d⟩:=List.pairwise_cons.mp h;simp only[Ev.m9];split
  .rename_i b;exact List.pairwise_cons.mpr ⟨λz a=>by
    rcases List.mem_cons.mp a with rfl|a
    .exact b
    .exact le_trans' b (c z a),h⟩
  .rename_i b;refine List.pairwise_cons.mpr ⟨λz a=>?_,rV x d⟩;rcases List.mem_cons.mp ((qQ x l).mem_iff.mp a)with rfl|a
   .exact le_total' _ _ (by simpa using b)
   .exact c z a
theorem iW:∀l,(Ev.br l).Perm l
 |[]=>.refl _
 |x :: l=>(qQ x _).trans ((iW l).cons x)
theorem oQ:∀l,(Ev.br l).Pairwise Le
 |[]=>.nil
 |x :: l=>rV x (oQ l)
def BD{l m:List (List Nat)}(h:m.Perm l)(s:m.Pairwise Le):m=Ev.br l:=
 (h.trans (iW l).symm).eq_of_pairwise (λa b _ _=>zX) s (oQ l)
theorem wO:∀a b:List Nat,Ev.lexLe a b = !ltCps b a
 |[],[]=>by simp[Ev.lexLe,ltCps]
 |[],_ :: _=>by simp[Ev.lexLe,ltCps]
 |_ :: _,[]=>by simp[Ev.lexLe,ltCps]
 |x :: xs,y :: ys=>by
  have c:=wO xs ys;simp only[Ev.lexLe,ltCps];by_cases e:x=y
  .subst e;simp[c]
  .have d:¬ y=x:=λz=>e z.symm;rw[aaj e];by_cases h:x<y
   .have:¬ y<x:=by omega
    simp[h,this,d]
   .have:y<x:=by omega
    simp[h,this]
theorem qz:∀(p:Str) (l:List Str),risingS p l=true->(p :: l).Pairwise λa b=>Le a.cps.toList b.cps.toList
 |p,[],_=>by simp
 |p,x :: r,h=>by
  have c:(!ltCps x.cps.toList p.cps.toList&&risingS x r)=true:=h;rw[W2,<-wO]at c;have e:=qz x r c.2;refine List.pairwise_cons.mpr ⟨λz d=>?_,e⟩;rcases List.mem_cons.mp d with rfl|d
  .exact c.1
  .exact le_trans' c.1 ((List.pairwise_cons.mp e).1 z d)
def oR{ss:List (List Nat)}{ss':List Str}(hp:ss'.Perm (ss.map aO))(hs:sortedS ss'=true):ss'=(Ev.br ss).map aO:=by
 have X0:ss'.Pairwise λa b=>Le a.cps.toList b.cps.toList:=by
  cases ss' with
  |nil=>exact .nil
  |cons p l=>exact qz p l hs
 have c:(ss'.map λz=>z.cps.toList).Perm ss:=by
  have:=hp.map λz:Str=>z.cps.toList;rw[ab0]at this;have e:ss.map ((λz:Str=>z.cps.toList) ∘ aO)=ss:=by
   rw[show((λz:Str=>z.cps.toList) ∘ aO)=id from funext λl=>by simp[aO]];simp
  rw[e]at this;exact this
 have d:=BD c (List.pairwise_map.mpr X0);rw[<-d,ab0];rw[show(aO ∘ λz:Str=>z.cps.toList)=id from funext λz=>by simp[aO]];simp
section
variable{X:Cx}{n:Nat}{b:E}
theorem kY:∀{us:List Value}{ss:List (List Nat)},StrsAre us (ss.map aO)->Vals (ss.map λl=>V.str (aO l)) us
 |[],[],_=>.nil
 |[],_ :: _,h=>by cases h
 |u :: us,[],h=>by cases h
 |u :: us,l :: ss,h=>by
  cases h with
  |cons x t h=>exact .cons ⟨_,rfl⟩ (kY h)
theorem aH.ofStrs{K:PySem.W.Frag}{H:Hp}{r:List Addr}:∀{ss:List (List Nat)},(∀l∈ss,l.length<=sizeLine)->aH K H r (ss.map D.str) (ss.map λl=>V.str (aO l))
 |[],_=>.nil
 |l :: ss,h=>.cons ⟨rfl,h l (by simp)⟩ (aH.ofStrs λz a=>h z (by simp[a]))
def Dp:gi X (.builtin "sorted") (wu X.K (Ev.cY .sorted)):=by
 intro x s σ H xs c Q I r q;obtain⟨rr,h,F,d,h',y,A,e,q⟩:=q
 match F,e with
 |[.ref n],e=>
  delta Ev.cY at e;dsimp only at e
  split at e
  case h_2=>cases e
  rename_i f G;split at e
  case isFalse=>cases e
  rename_i J;obtain⟨ds,L,M⟩:=Option.bind_eq_some_iff.mp G;simp only[aH,RV]at A;obtain⟨v,w,rfl,⟨p,rfl,z⟩,rfl⟩:=A;obtain⟨p',vs,B,N,w⟩:=y.read L;rw[z]at B;cases B;obtain⟨u,rfl,P⟩:=vals1 r;cases P;obtain⟨c,pv,W,hz⟩:=I.list N;obtain⟨C,Y⟩:=pT M w pv;have a:c.length<64:=by
   have Z:=C.length;simp at Z;omega
  refine sorted_strs W.isList C a λout ss' a1 a2 a3=>?_;have hq:=oR a2 a3;subst hq;have g:∀l∈Ev.br f,l.length<=sizeLine:=λl i=>Y l ((iW f).mem_iff.mp i);obtain⟨e',he⟩:=sortedAll_at s.heap c out;obtain⟨j,q2⟩:=q.lst e (aH.ofStrs g) y;refine⟨.ref (s.heap.objs.size+1),_,I.laid (t':=s.toks) (o:=.lst ((Ev.br f).map λl=>V.str (aO l))) (λb ob q=>sortedAll_old q) (ac0 _) ?_,rfl,q2 _ (I.hok.fresh (ac0 _))⟩;exact⟨j,out.toList,e',kY a1,by simpa[seqObj]using he⟩
end
end Sm
namespace Rv
open PySem PyProof.Rows
def oS:Manifest.owners.lookup (String.ofList ['d','e','s','r','e','v','e','r'].reverse)=some Manifest.sig_reversed:=by kernel_rfl
def slot_next:Slot "reversed" "__next__" "reversed.__next__" :=
 .of (owner:="reversed") (n:="__next__") (by rw[abt,aa1];kernel_rfl) (by decide +kernel) (by decide +kernel) (by decide +kernel)
  (by first|exact .inl (by decide +kernel)|exact .inr (by decide +kernel)) (by rw[aby];kernel_rfl)
def entry_next:entryFor table "reversed.__next__" = some Builtin.«reversed.__next__»:=entryFor_of_tree (by kernel_rfl)
def args_next (a:Value):argsOk "reversed.__next__" ⟨[a],[]⟩:=by
 unfold argsOk;rw[signature?_of (id:="reversed.__next__") (n:=['_','_','t','x','e','n','_','_']) (o:=['d','e','s','r','e','v','e','r']) (by kernel_rfl) oS];kernel_rfl
def uI:Slot "reversed" "__iter__" "reversed.__iter__" :=
 .of (owner:="reversed") (n:="__iter__") (by rw[abt,aa1];kernel_rfl) (by decide +kernel) (by decide +kernel) (by decide +kernel)
  (by first|exact .inl (by decide +kernel)|exact .inr (by decide +kernel)) (by rw[aby];kernel_rfl)
def Dq (a:Value):argsOk "reversed.__iter__" ⟨[a],[]⟩:=by
 unfold argsOk;rw[signature?_of (id:="reversed.__iter__") (n:=['_','_','r','e','t','i','_','_']) (o:=['d','e','s','r','e','v','e','r']) (by kernel_rfl) oS];kernel_rfl
def BE:entryFor table "reversed.__iter__" = some Builtin.«dict_keyiterator.__iter__»:=
 entryFor_alias (id':="dict_keyiterator.__iter__") (by kernel_rfl) (by first|rfl|decide +kernel | (unfold String.splitOn;simp +decide [String.splitOnAux])) (by decide +kernel) (by kernel_rfl)
def oU:Slot "reversed" "__length_hint__" "reversed.__length_hint__" :=
 .of (owner:="reversed") (n:="__length_hint__") (by rw[abt,aa1];kernel_rfl) (by decide +kernel) (by decide +kernel) (by decide +kernel)
  (by first|exact .inl (by decide +kernel)|exact .inr (by decide +kernel)) (by rw[aby];kernel_rfl)
def BF:entryFor table "reversed.__length_hint__" = some Builtin.«reversed.__length_hint__»:=entryFor_of_tree (by kernel_rfl)
def Dr (a:Value):argsOk "reversed.__length_hint__" ⟨[a],[]⟩:=by
 unfold argsOk;rw[signature?_of (id:="reversed.__length_hint__") (n:=['_','_','t','n','i','h','_','h','t','g','n','e','l','_','_']) (o:=['d','e','s','r','e','v','e','r']) (by kernel_rfl) oS];kernel_rfl
def Oa:typeLookup (.type "reversed") "__len__" = pure none:=by rw[abt,aa1];kernel_rfl
def Ob:typeLookup (.type "tuple") "__reversed__" = pure none:=by rw[abt,aa1];kernel_rfl
section
variable{prog:Program}{w:World}{A:Around}{E:Value->Shared->Prop}{s:Shared}
def Ds:Slot "reversed" "__init__" "object.__init__" :=
 .of (owner:="object") (n:="__init__") (by rw[abt,aa1];kernel_rfl) (by decide +kernel) (by decide +kernel) (by decide +kernel)
  (by first|exact .inl (by decide +kernel)|exact .inr (by decide +kernel)) (by rw[aby];kernel_rfl)
def called:TypeCalled "reversed" "reversed.__new__" "object.__init__" :=
 ⟨by decide +kernel,by decide +kernel,⟨_,_,F.mro_reversed⟩,F.made_reversed,by decide +kernel,F.sub_reversed_self,Ds⟩
def gZ (h:Heap) (a t:Addr) (i:Int):Prop:=∃o,h.get? a=some o/\o.cls=.type "reversed" /\o.data=.fields #[.ref t,rawInt i]
def gZ.typeIs {a l:Addr}{i:Int}(x:gZ s.heap a l i):s.TypeIs (.ref a) "reversed" :=let ⟨o,ho,hc,_⟩:=x;⟨o,ho,hc⟩
def gZ.at{h h':Heap}{a l:Addr}{i:Int}(x:gZ h a l i)(e:∀o,h.get? a=some o->h'.get? a=some o):gZ h' a l i:=let ⟨o,ho,r⟩:=x;⟨o,e _ ho,r⟩
noncomputable def pU (l:Addr) (i:Int):Obj:={ cls:=.type "reversed",data:=.fields #[.ref l,rawInt i]}
def pV{h h':Heap}{t:Addr}{items:Array Value}(x:IsTup h t items)(e:∀o,h.get? t=some o->h'.get? t=some o):IsTup h' t items:=let ⟨o,ho,r⟩:=x;⟨o,e _ ho,r⟩
def Gq{t:Addr}{items:Array Value}{Q₁:Value->Shared->Prop}(ht:IsTup s.heap t items)(hfit:(items.size:Int)<2 ^ 63)
  (h:Q₁ (.ref s.heap.objs.size) { s with heap:=s.heap.push (pU t ((items.size:Int) - 1)),toks:=s.toks+1+1 }) :
  codeAny (model prog w) A (.call (.builtin "reversed.__new__") ⟨[.type "reversed",.ref t],[]⟩) (wants Q₁ E) s:=by
 refine codeAny_of_tree ?_;show wpAny _ A.in1 (do checkBuiltinCall "reversed.__new__" ⟨[.type "reversed",.ref t],[]⟩;again (.builtin "reversed.__new__" ⟨[.type "reversed",.ref t],[]⟩)) _ _ s;refine gV (abj (F.newCall_reversed_1 _) (aaf ⟨plainId_quiet F.plain_reversed_new _,codeAny_builtin F.entry_reversed_new ?_⟩));rw[Around.under_plainId F.plain_reversed_new _];unfold Builtin.«reversed.__new__»;refine gV (abj (newClass_reversed _) ?_);try dsimp only
 refine gV (abj (a:=()) (by first|rfl|kernel_rfl) ?_);refine gV (abj (a:=()) (by first|rfl|kernel_rfl) ?_);try dsimp only
 refine gV (abF ht.typeIs Ob ?_);try dsimp only
 refine gV ?_
 wp_delta
 refine gV (acp (T:="tuple") (b:=false) ht.typeIs (by rw[aby];kernel_rfl) ?_);refine aaQ (λc=>absurd c (by decide)) (λ_=>?_);refine gV (abF ht.typeIs slot_tuple_getitem.lookup ?_);try dsimp only
 refine aaQ (λ_=>?_) (λc=>absurd (by decide) c);refine aaf ?_;refine aaQ (λc=>absurd c (by decide)) (λ_=>?_);refine gV (len_tuple ht hfit ?_);refine gV (m:=asInt? _) (aaf ?_);try dsimp only
 refine gV (m:=Builtin.SmallTypes.newRecord _ _) ?_;unfold Builtin.SmallTypes.newRecord;refine aaY ?_ (by size_fits);exact aaf h
def Gr{t:Addr}{items:Array Value}{Q:Value->Shared->Prop}(ht:IsTup s.heap t items)(hfit:(items.size:Int)<2 ^ 63)
  (h:Q (.ref s.heap.objs.size) { s with heap:=s.heap.push (pU t ((items.size:Int) - 1)),toks:=s.toks+1+1 }):wpAny (model prog w) A (call (.type "reversed") [.ref t]) Q E s:=by
 refine callType_codes (Q₁:=λa b=>a=.ref s.heap.objs.size/\b={ s with heap:=s.heap.push (pU t ((items.size:Int) - 1)),toks:=s.toks+1+1 }) called (F.typeCall_reversed_1 _) F.entry_object_init (Gq ht hfit ⟨rfl,rfl⟩) ?_;rintro a b ⟨rfl,rfl⟩;have c:({ s with heap:=s.heap.push (pU t ((items.size:Int) - 1)),toks:=s.toks+1+1 }:Shared).TypeIs (.ref s.heap.objs.size) "reversed" :=⟨_,aat _ rfl,rfl⟩
 refine⟨c,F.args_object_init_2 _ _,?_⟩;exact object_init_meets (self:=Value.ref s.heap.objs.size) (rest:=[Value.ref t]) called.init.lookup called.made (by decide) prog w A.in1 _ _ ⟨c,rfl,h⟩
def next_item{it t:Addr}{i:Nat}{items:Array Value}{x:Value}{Q:Option Value->Shared->Prop}(hit:gZ s.heap it t (i:Int))(ht:IsTup s.heap t items)(hx:items[i]?=some x)(hfit:(items.size:Int)<2 ^ 62)
  (hQ:∀h' tk,gZ h' it t ((i:Int) - 1)->Heap.SameBut it s.heap h'->Q (some x) { s with heap:=h',toks:=tk }):wpAny (model prog w) A (pyNext (.ref it)) Q E s:=by
 obtain⟨o,c,e,b⟩:=id hit;have f:i<items.size:=(Array.getElem?_eq_some_iff.mp hx).1;unfold pyNext;refine gV (ace (abq (name:=Str.ofString "__next__") hit.typeIs slot_next
  (abm slot_next hit.typeIs entry_next ?_ (args_next _))))
 unfold Builtin.«reversed.__next__»;refine gV (abj (a:=(Value.ref it,[])) rfl ?_);try dsimp only
 refine gV (aa7 c b (x:=.ref t) rfl ?_);refine gV (aa7 c b (x:=rawInt (i:Int)) rfl ?_);show wpAny _ _ (if (i:Int)<0 then _ else _) _ _ s;rw[aaj (by omega)];try dsimp only
 refine gV (abF ht.typeIs slot_tuple_getitem.lookup ?_);try dsimp only
 refine aaQ (λd=>absurd d (by decide)) (λ_=>?_);refine gV (wpAny_mkInt ?_);refine gV (ace (getItem_tuple (j:=i) ht (by omega) (by omega) (by unfold seqIndex?;simp;omega) hx ?_));try dsimp only
 refine gV (aa7 c b (x:=rawInt (i:Int)) rfl ?_);show wpAny _ _ (setField (.ref it) 1 (rawInt ((i:Int) - 1)) >>= _) _ _ _;refine gV (acH c b (by simp) ?_);refine aaf ⟨x,rfl,aaf (hQ _ _ ?_ (ab7 ..))⟩;exact⟨_,abe _ c (Obj.isFreed_of_fields (abI b _)),(Obj.cls_mapFields ..).trans e,by
  rw[abI b];simp⟩
def next_end{it t:Addr}{Q:Option Value->Shared->Prop}(hh:A.handled=none)(hit:gZ s.heap it t (-1))
  (hQ:∀h',Heap.ExtBut it s.heap h'->Q none { s with heap:=h' }):wpAny (model prog w) A (pyNext (.ref it)) Q E s:=by
 obtain⟨o,d,f,c⟩:=id hit;unfold pyNext;refine gV (ace (abq (name:=Str.ofString "__next__") hit.typeIs slot_next
  (abm slot_next hit.typeIs entry_next ?_ (args_next _))))
 unfold Builtin.«reversed.__next__»;refine gV (abj (a:=(Value.ref it,[])) rfl ?_);try dsimp only
 refine gV (aa7 d c (x:=.ref t) rfl ?_);refine gV (aa7 d c (x:=rawInt (-1)) rfl ?_);show wpAny _ _ (if (-1:Int)<0 then _ else _) _ _ s;rw[LV (by decide)];refine gV (acR ?_);refine gV ?_
 wp_delta
 refine gV (acH d c (by simp) ?_);have e:=abe (Obj.mapFields λx=>x.setIfInBounds 1 (rawInt (-1))) d (Obj.isFreed_of_fields (abI c _));refine acH e (abI c _) (by simp) ?_;refine gV ?_;unfold Builtin.SmallTypes.stopIteration;first
 |show wpAny _ _ (newExc (.type "StopIteration") [] >>= _) _ _ _
 | (refine gV ?_;show wpAny _ _ (newExc (.type "StopIteration") [] >>= _) _ _ _)
 refine gV ?_;simp only[newExc,newTuple];refine gV (aaY ?_ (by size_fits));refine gV (m:=firstArgMember _ _) (abj (a:=Value.none) (by first|rfl | (simp only[firstArgMember];rfl)) ?_);refine aaY ?_ (by size_fits);simp only[raiseNew];refine gV (wpAny_handled ?_);first|rw[show A.in1.handled=none from hh]|rw[hh]
 refine gV (aaf (wpAny_throw ?_));refine gV (acp (T:="StopIteration") (b:=true) ⟨_,aat _ rfl,rfl⟩ isSubtype_stop ?_);exact aaf (hQ _ ((((ab7 ..).extBut.trans (ab7 ..).extBut).push _).push _))
def wQ{it t:Addr}{i:Int}{Q:Value->Shared->Prop}(hit:gZ s.heap it t i)(h:Q (.ref it) s):wpAny (model prog w) A (pyIter (.ref it)) Q E s:=by
 refine wpAny_pyIter_slot hit.typeIs uI (abm uI hit.typeIs BE ?_ (Dq _));show wpAny _ _ (ret (.ref it)) _ _ s;exact aaf ⟨_,rfl,"reversed",_,hit.typeIs,slot_next.lookup,h⟩
def Gs{it t:Addr}{items:Array Value}{Q:Bool->Shared->Prop}(hit:gZ s.heap it t ((items.size:Int) - 1))(ht:IsTup s.heap t items)(hfit:items.size<=sizeLine)
  (h:∀tk,Q ((items.size:Int) != 0) { s with toks:=tk }):wpAny (model prog w) A (Builtin.List.listLengthHint (.ref it)) Q E s:=by
 obtain⟨o,e,i,f⟩:=id hit;unfold Builtin.List.listLengthHint;refine gV (abF hit.typeIs Oa ?_);refine aaQ (λc=>absurd c (by decide +kernel)) (λ_=>?_);refine aaQ (λc=>absurd c (by decide)) (λ_=>?_);refine gV (abF hit.typeIs oU.lookup ?_);generalize hid:("reversed.__length_hint__" : String)=X3
 dsimp only;rw[show splitId X3=some ("reversed","__length_hint__")from by subst hid;decide +kernel];subst hid;dsimp only;refine gV (acp (T:="reversed") (b:=true) hit.typeIs (by rw[aby];kernel_rfl) ?_);refine aaQ (λc=>absurd c (by decide)) (λ_=>?_);refine aaQ (λc=>absurd c (by decide +kernel)) (λ_=>?_);refine gV (acR ?_);refine gV (abj (oU.bind _) ?_);refine gV (ace (abm oU hit.typeIs BF ?_ (Dr _)));unfold Builtin.«reversed.__length_hint__»;refine gV (abj (a:=Value.ref it) rfl ?_);refine gV (aa7 e f (x:=.ref t) rfl ?_);refine aaQ (λc=>absurd c abb) (λ_=>?_);have d:(items.size:Int)<2 ^ 63:=by rw[aa8]at hfit;omega
 refine gV (len_tuple ht d ?_);refine gV (m:=asInt? _) (aaf ?_);refine gV (aa7 e f (x:=rawInt ((items.size:Int) - 1)) rfl ?_);show wpAny _ _ (if (items.size:Int)<(items.size:Int) - 1+1 then _ else _) _ _ _;rw[aaj (by omega)];have g:(items.size:Int) - 1+1=(items.size:Int):=by omega
 rw[g];unfold retInt;refine gV (wpAny_mkInt (aaf ⟨_,rfl,?_⟩));generalize s.toks+1+1=tk
 show wpAny _ _ (asInt? (Value.int (items.size:Int) tk) >>= _) _ _ _;refine gV ?_;refine aaf (a:=some (items.size:Int)) ?_;have X4:Builtin.List.listFitsIndex (items.size:Int)=true:=by unfold Builtin.List.listFitsIndex;rw[aaV (by omega),aaV (by omega)];rfl
 show wpAny _ _ (if (!Builtin.List.listFitsIndex (items.size:Int))=true then _ else _) _ _ _;rw[aaj (by rw[X4];decide)];show wpAny _ _ (if (items.size:Int)<0 then _ else _) _ _ _;rw[aaj (by omega)];have X5:Builtin.List.listTooLong ((items.size:Int).toNat)=false:=by unfold Builtin.List.listTooLong;rw[abU];exact aav (by omega)
 show wpAny _ _ (if Builtin.List.listTooLong ((items.size:Int).toNat)=true then _ else _) _ _ _;rw[aaj (by rw[X5];decide)];exact aaf (h _)
def _root_.PySem.Walks.Oc(hh:A.handled=none)(I t:Addr)(hne:t≠I)(items:Array Value)(hfit:(items.size:Int)<2 ^ 62) :
  Walks prog w A I [I,t] [I] items.size (λi v=>items[items.size - 1 - i]?=some v) (λi h=>i<=items.size/\gZ h I t ((items.size:Int) - 1 - (i:Int))/\IsTup h t items) where
 sub:=λb c=>by simp at c;simp[c]
 frame:=λ_ _ _ x p=>⟨x.1,x.2.1.at λo e=>p I (by simp) o e,pV x.2.2 λo e=>p t (by simp) o e⟩
 item:=λi s Q E r x d=>by
  have e:(items.size:Int) - 1 - (i:Int)=((items.size - 1 - i:Nat):Int):=by omega
  have a:=x.2.1;rw[e]at a;have q:items[items.size - 1 - i]?=some (items[items.size - 1 - i]'(by omega)):=ack (by omega);refine next_item a x.2.2 q hfit λj tk Od f=>?_;have y:((items.size - 1 - i:Nat):Int) - 1=(items.size:Int) - 1 - ((i+1:Nat):Int):=by omega
  rw[y]at Od;exact d _ j tk q ⟨r,Od,pV x.2.2 λo g=>(f.2 t hne).trans g⟩ λb o c g=>f.extBut b o (λh=>c (by simp[h])) g
 done:=λs Q E x d=>by
  have e:(items.size:Int) - 1 - (items.size:Int) = -1:=by omega
  have a:=x.2.1;rw[e]at a;exact next_end hh a λj l=>d j s.toks λb o c g=>l b o (λh=>c (by simp[h])) g
 self:=λ_ _ _ _ x d=>wQ x.2.1 d
def BG{R:Result->Shared->Prop}{I t:Addr}{items:Array Value}(hh:A.handled=none)(hit:gZ s.heap I t ((items.size:Int) - 1))(ht:IsTup s.heap t items)(hne:t≠I)(hlen:items.size<=sizeLine)
  (S:Addr) (hSI:S≠I) (hSt:S≠t) (res:Value) (c₀:Nat) (hS:s.heap.get? S=some { cls:=.type "list",data:=.seq #[] c₀ })
  (hR:∀h' tk acc' c',(∀b o,b≠S->b≠I->s.heap.get? b=some o->h'.get? b=some o)->h'.get? S=some { cls:=.type "list",dict:=none,data:=.seq acc' c',slots:=#[]}->
   ItemsOf (λi v=>items[items.size - 1 - i]?=some v) acc' items.size->R (.ok (.ret res)) { s with heap:=h',toks:=tk }) :
  wpAny (model prog w) A.in1 (Builtin.List.listExtendWith (.ref S) (.ref I) res)
   (λfin s'=>match fin with|.done f=>R (.ok f) s'|.again c'=>c'.quiet=true/\codeAny (model prog w) A c' R s') (λe s'=>R (.error e) s') s:=by
 have z:(items.size:Int)<2 ^ 62:=by rw[aa8]at hlen;omega
 have l:S∉[I,t]:=λj=>by rcases List.mem_cons.mp j with e|e;exact hSI e;exact hSt (List.mem_singleton.mp e)
 have W:=(Walks.Oc (prog:=prog) (w:=w) (A:=A.in1) hh I t hne items z).toS;have c:∀(h:Heap) (p tk:Nat),gZ h I t ((items.size:Int) - 1 - ((0:Nat):Int))->IsTup h t items->(∀b o,b≠S->s.heap.get? b=some o->h.get? b=some o)->
   h.get? S=some { cls:=.type "list",data:=.seq #[] p }->codeAny (model prog w) A (.builtin "list.extend.loop" ⟨[.ref S,.ref I,res],[]⟩) R { s with heap:=h,toks:=tk }:=by
  intro h p tk hit ht B Tp;refine codeAny_extend_loopS W hlen S l res items.size 0 _ #[] p rfl (aaU _) ⟨aaU _,hit,ht⟩ Tp (ItemsOf.nil _) λs' acc' c' j q d=>?_;rw[Moved.eq_with j];refine hR s'.heap s'.toks acc' c' (λb o g r e=>j.heap b o (λa=>?_) (B b o g e)) q d;rcases List.mem_cons.mp a with C|a
  .exact g C
  .exact r (List.mem_singleton.mp a)
 unfold Builtin.List.listExtendWith;refine gV (acm (T:="reversed") hit.typeIs ?_);have G:Builtin.List.listSameRef (.ref S) (.ref I)=false:=by simp[Builtin.List.listSameRef,hSI]
 have H:(Value.type "reversed" ==Value.type "list")=false:=by decide
 have J:(Value.type "reversed" ==Value.type "tuple")=false:=by decide
 simp only[G,H,J,Bool.or_false,aay,aaZ];refine gV (wQ hit ?_);refine gV (wpAny_holding (Gs hit ht hlen λtk=>?_));have Oe:gZ s.heap I t ((items.size:Int) - 1 - ((0:Nat):Int)):=by simpa using hit
 refine aaQ (λ_=>?_) (λ_=>aaf ⟨plainId_quiet F.plain_extend_loop _,c _ c₀ _ Oe ht (λb o _ e=>e) hS⟩);refine gV (acR ?_);refine gV ?_;show wpAny _ _ (updateSeq S (·.push .none) >>= λ_=>updateSeq S (·.pop)) _ _ _;refine gV (acA hS rfl ?_);have y:=abe (Obj.mapSeq (·.push Value.none)) hS rfl;refine acA (hz:=by seq_fits) y rfl ?_;have Tt:=abe (Obj.mapSeq (·.pop)) y rfl;have x:∀b o,b≠S->s.heap.get? b=some o->((s.heap.update S (Obj.mapSeq (·.push Value.none))).update S (Obj.mapSeq (·.pop))).get? b=some o:=λb o g e=>(abw _ _ (abk g)).trans ((abw _ _ (abk g)).trans e);exact aaf ⟨plainId_quiet F.plain_extend_loop _,c _ _ _ (Oe.at λo e=>x _ _ (abk hSI) e) (pV ht λo e=>x _ _ (abk hSt) e) x Tt⟩
def Gu{R:Result->Shared->Prop}{I t:Addr}{items:Array Value}(hh:A.handled=none)(hit:gZ s.heap I t ((items.size:Int) - 1))(ht:IsTup s.heap t items)(hne:t≠I)(hlen:items.size<=sizeLine)
  (S:Addr) (hSI:S≠I) (hSt:S≠t) (hS:s.heap.get? S=some { cls:=.type "list",data:=.seq #[]})
  (hR:∀h' tk acc' c',(∀b o,b≠S->b≠I->s.heap.get? b=some o->h'.get? b=some o)->h'.get? S=some { cls:=.type "list",dict:=none,data:=.seq acc' c',slots:=#[]}->
   ItemsOf (λi v=>items[items.size - 1 - i]?=some v) acc' items.size->R (.ok (.ret .none)) { s with heap:=h',toks:=tk }) :
  wpAny (model prog w) A.in1 (Builtin.«list.__init__» ⟨[.ref S,.ref I],[]⟩)
   (λfin s'=>match fin with|.done f=>R (.ok f) s'|.again c'=>c'.quiet=true/\codeAny (model prog w) A c' R s') (λe s'=>R (.error e) s') s:=by
 show wpAny _ _ (do let old <-Builtin.List.listItems (.ref S);Builtin.List.listUpdate (.ref S) (λ_=>#[]);letGo old.toList.reverse;Builtin.List.listExtendWith (.ref S) (.ref I) .none) _ _ s;refine gV ?_;unfold Builtin.List.listItems;refine gV (wpAny_seqItems hS rfl (aaf ?_));show wpAny _ _ (updateSeq S (λ_=>#[]) >>= λ_=>letGo (#[]:Array Value).toList.reverse >>= λ_=>Builtin.List.listExtendWith (.ref S) (.ref I) .none) _ _ s;refine gV (acA hS rfl ?_);have h:=abe (Obj.mapSeq (λ_=>(#[]:Array Value))) hS rfl;have Of:∀b o,b≠S->s.heap.get? b=some o->(s.heap.update S (Obj.mapSeq (λ_=>(#[]:Array Value)))).get? b=some o:=
  λb o c e=>(abw _ _ (abk c)).trans e
 refine gV (wpAny_letGo ?_);refine BG hh (hit.at λo e=>Of _ _ (abk hSI) e) (pV ht λo e=>Of _ _ (abk hSt) e) hne hlen S hSI hSt .none _ h λh' tk acc' c' j d a=>?_;exact hR h' tk acc' c' (λb o c g e=>j b o c g (Of b o c e)) d a
def ve{Q:Value->Shared->Prop}{I t:Addr}{items:Array Value}(hh:A.handled=none)(hit:gZ s.heap I t ((items.size:Int) - 1))(ht:IsTup s.heap t items)(hne:t≠I)(hlen:items.size<=sizeLine)
  (hQ:∀h' tk acc' c',(∀b o,b≠I->s.heap.get? b=some o->h'.get? b=some o)->
   h'.get? s.heap.objs.size=some { cls:=.type "list",dict:=none,data:=.seq acc' c',slots:=#[]}->ItemsOf (λi v=>items[items.size - 1 - i]?=some v) acc' items.size->Q (.ref s.heap.objs.size) { s with heap:=h',toks:=tk }) :
  wpAny (model prog w) A (call (.type "list") [.ref I]) Q E s:=by
 refine callType_codes (Q₁:=λa g=>a=.ref s.heap.objs.size/\g={ s with heap:=s.heap.push { cls:=.type "list",data:=.seq #[]}}) F.called_list (F.typeCall_list_1 _) F.entry_list_init
  (code_list_new _ ⟨rfl,rfl⟩) λa g j=>?_
 obtain⟨rfl,rfl⟩:=j;have h:(s.heap.push { cls:=.type "list",data:=.seq #[]}).get? s.heap.objs.size=some { cls:=.type "list",data:=.seq #[]}:=aat _ rfl;have l:I<s.heap.objs.size:=by obtain⟨o,d,_⟩:=hit;exact aan d
 have p:t<s.heap.objs.size:=by obtain⟨o,d,_⟩:=ht;exact aan d
 refine⟨⟨_,h,rfl⟩,F.args_list_init_2 _ _,Gu (A:=A.in1) hh (hit.at λo e=>aac _ e) (pV ht λo e=>aac _ e) hne hlen _ (acY l) (acY p) h λh' tk acc' c' q f c=>?_⟩;exact⟨rfl,hQ h' tk acc' c' (λb o r e=>q b o (aaB (aan e)) r (aac _ e)) f c⟩
end
end Rv
namespace Sm
open PySem PySem.Spec PyProof.Rows L2 PySem.SeqAt
open Ev (D O Hh Fr R aS E Es Eo T S Ss Fl Src bV bR TY BI ME)
section
variable{X:Cx}{G:Tb}{n:Nat}{sc:Scope}{N:List Str}{df:Bool}{m:List Nat}{a b:E}{xa:Expr}{pos:Pos}
def Gv{vs:List V}{us:List Value}(r:Vals vs us){acc:Array Value}(h:ItemsOf (λi v=>us.toArray[us.toArray.size - 1 - i]?=some v) acc us.toArray.size):Vals vs.reverse acc.toList:=by
 obtain⟨c,g⟩:=h;have e:acc.toList=us.reverse:=by
  apply abh;intro i;by_cases d:i<us.length
  .have f:i<acc.size:=by rw[c];simpa using d
   have:=g i _ (ack f);rw[List.getElem?_reverse d];simp only[Xm,List.getElem?_toArray]at this;rw[this];simp[f]
  .have j:acc.size=us.length:=by rw[c];simp
   rw[aar (by rw[abE];omega),aar (by rw[List.length_reverse];omega)]
 rw[e];exact Vals.reverse r
def KQ {p p2 pos2:Pos}(ha:JE G n sc N df m a xa) (h1:autoParam (("list" : Str)∈G.bl) zi._auto_1) (rT:autoParam (sc.names.lookup ("list" : Str)=some .globalImplicit) zb._auto_1)
  (hg:autoParam (sc.names.lookup ("reversed" : Str)=some .globalImplicit) zb._auto_1) (hb:autoParam (("reversed" : Str)∈G.bl) zi._auto_1)
  (hst:autoParam (∀env:Env,starEach [xa] env=[(false,eval xa env)]) zf._auto_1)
  (wR:autoParam (∀env:Env,starEach [Expr.Call (.Name "reversed" p2) [xa] [] pos2] env=[(false,eval (Expr.Call (.Name "reversed" p2) [xa] [] pos2) env)]) zf._auto_1) :
  JE G n sc N df m (.jF (.rev a)) (.Call (.Name "list" p) [.Call (.Name "reversed" p2) [xa] [] pos2] [] pos):=λX g=>by
 intro i s σ H Q I q;obtain⟨r,Y,h,d,Z,sr,hr,e,q⟩:=q;rw[Ev.ev,Ev.dj]at e;replace e:=Ev.ai e;obtain⟨src,L,c,e⟩:=e;replace c:=Ev.ai c;obtain⟨x,h4,e2,c⟩:=c;replace c:=Ev.aF c;obtain⟨c,y0⟩:=c;subst y0;refine abu (kj I (g.gl rT) (g.bl _ h1) (show bootBuiltins ("list" : Str)=some (.type "list")by decide +kernel) ?_ (by decide) (by decide));refine abc ?_ (wR _) rfl;rw[wR];show wpAny _ _ (spliced ((false,eval (Expr.Call (.Name "reversed" p2) [xa] [] pos2) X.env) :: backTo pos [])) _ _ s;refine Calls.spliced_cons ?_;have Og:PA X [xa] _:=j7 (ha X g) mj (by rw[hst];rfl);refine Call_ (kj I (g.gl hg) (g.bl _ hb) (show bootBuiltins ("reversed" : Str)=some (.type "reversed")by decide +kernel) (abc (bQ (Og pos2 i s σ H (λM H1=>∃y u,M=[u]/\RV X.K H1 y x u/\HR X.K H1 y L/\Fm X.K r y H H1) I ⟨r,Y,h,x,L,sr,hr,e2,λu H1 y C l f1=>⟨y,u,rfl,C,l,f1⟩⟩) λus s1 z=>?_) (hst _) rfl));obtain⟨M,H1,I1,rv,y,u,rfl,C,l,f1⟩:=z;cases x<;>simp only[Ev.FP,Option.map,reduceCtorEq]at c
 rename_i ds;cases c;obtain⟨t,ws,rfl,z,w⟩:=C.shape;cases rv with
 |cons ra rb=>
 cases rb;cases ra;obtain⟨f,pv,pt,P⟩:=I1.tuple z;have j:f.toArray.size<=sizeLine:=by rw[Xm,<-pv.length];exact P
 have hf:(f.toArray.size:Int)<2 ^ 63:=by rw[aa8]at j;omega
 refine Rv.Gr pt hf ?_;refine Calls.spliced_nil ?_;have I2:Inv X i σ H1 { s1 with heap:=s1.heap.push (Rv.pU t ((f.toArray.size:Int) - 1)),toks:=s1.toks+1+1 }:=I1.kept λb o e=>aac _ e;have F:t≠s1.heap.objs.size:=by obtain⟨o,ho,_⟩:=pt;exact aaB (aan ho)
 refine Rv.ve (I1.ok.hd g.calm) ⟨_,aat _ rfl,rfl,rfl⟩ (Rv.pV pt λo e=>aac _ e) F j λZ tk A c' hk J B=>?_;obtain⟨hz2,q2⟩:=(q.later f1).lst e w.reverse l;have W:s1.heap.objs.size<=(s1.heap.push (Rv.pU t ((f.toArray.size:Int) - 1))).objs.size:=by rw[size_push'];exact ac0 _
 refine⟨.ref _,_,I1.laid (t':=tk) (o:=.lst ws.reverse) (λb u e=>hk b u (aaB (aan e)) (aac _ e)) W ?_,rfl,q2 _ (I1.hok.fresh W)⟩;exact⟨by simpa using P,A.toList,c',Gv pv B,by simpa using J⟩
end
theorem aH.ofInts{K:PySem.W.Frag}{H:Hp}{r:List Addr}:∀ns:List Int,aH K H r (ns.map D.int) (ns.map V.int)
 |[]=>.nil
 |_ :: l=>.cons rfl (aH.ofInts l)
def Oh{K:PySem.W.Frag}{H:Hp}{a:Addr}{vs:List V}(hO:tu H)(hS:fQ K H a vs):Br K H a vs:=by
 rcases hS with h|h
 .rcases h with h|⟨o,h⟩
  .rcases hO a with q|⟨o,b,q⟩
   .rw[q]at h;cases h
   .rw[q]at h;cases h
  .exact .inl ⟨o,h⟩
 .exact .inr h
def ID{l:List D}{k:Nat}{o:O}(hk:([O.bK l])[k]?=some o):o=.bK l:=by
 cases k with|zero=>simp at hk;exact hk.symm|succ k=>simp at hk
def X6{K:PySem.W.Frag}{H:Hp}{r:List Addr}{l:List D}:OX K H r [.bK l] where
 ob:=λk c ds d=>by have:=ID d;cases this
 pv:=λk a b d=>by have:=ID d;cases this
 jp:=λk _ _ _ _ _ _ _ d _ _=>by have:=ID d;cases this
 jo:=λk _ _ _ _ _ _ _ _ d _=>by have:=ID d;cases this
def Tu{K:PySem.W.Frag}{F:List Ev.Fn}{w n f:Nat}{H:Hp}{a:Addr}{ns:List Int}(hO:tu H)(hS:fQ K H a (ns.map V.int)){h':Hh}(e:Ev.run F w n f [.ref 0] [.bK (ns.map D.int)]=.ok (.bl true) h') :
  qu K F w n f [.ref a] H (λv _=>v=.bl true) λ_ _ _=>False:=by
 refine⟨[a],[.bK (ns.map D.int)],[.ref 0],.bl true,h',.cons (show RV K H [a] (.ref 0) (.ref a)from ⟨a,rfl,rfl⟩) .nil,⟨rfl,λk o c=>?_,λk l b x y _ _ c _=>?_
  ,X6
  ⟩,e,λv H' g d _ _=>d⟩
 .cases k with
  |zero=>
   simp at c;subst c;exact⟨a,rfl,_,Oh hO hS,aH.ofInts ns⟩
  |succ k=>simp at c
 .cases k with
  |zero=>simp at c
  |succ k=>simp at c
def KR{F:List Ev.Fn}{wh n f:Nat}{l:PySem.W.OpenLaw}{q:Program}{loose:List Str}{XP:(Str->Option Value)->Heap->Prop}{YP:World->Heap->Prop}{d:DefRec}{K:Params->PySem.W.Frag}{x:Str}(hn:l.most=some 63)(hdf:d.params.defaults=[])(hr:gb n callerA)
  (hY:∀(w:World) (h:Heap),YP w h->(K w.params).In h) (good:∀ns:List Int,ns.length<=63->∃h',Ev.run F wh n f [.ref 0] [.bK (ns.map D.int)]=.ok (.bl true) h')
  (Fo:∀(w:World) (mg:Str->Option Value) (fa:Addr) (h:Heap),(K w.params).In h->h.Ns mainGlobals mg->mg d.name=some (.ref fa)->
   ∃fd:FuncData,(∀(s:Shared) (u:Value),BindsTo s fd ⟨[u],[]⟩ [(x,u)])/\∀base:Heap,(K w.params).In base->base.Ns mainGlobals mg->jk l.prog w (K w.params) mg base oH n fa fd [x] (qu (K w.params) F wh n f)) :
  PySem.W.WalkO q loose XP YP l.row.toRowW d [] (λf vs=>PySem.call f vs):=
 L2.FG (n:=63) (k:=n) (x:=x) (CX:=oH) (sp:=λK=>qu K F wh n f) hn (by decide) hdf hr hY Fo (λK H a ns b c g=>by
  obtain⟨h',e⟩:=good ns b;exact Tu c g e) λ_ _ _ _ z=>z
theorem Dt{P:Program}{w:World}{K:PySem.W.Frag}{mg:Str->Option Value}{base:Heap}{G:Tb}(T:Top P w K mg G)
  (st:∀n,vq P w K mg base G n->vq P w K mg base G (n+1)):∀n,vq P w K mg base G n
 |0=>λf i _=>Kv
 |n+1=>st n (Dt T st n)
end Sm
namespace Sm
open PySem PySem.Spec PyProof.Rows L2
open Ev (D O Hh Fr R aS E Es Eo It T S Ss Fl Src bV bR TY BI ME)
section
variable{G:Tb}{n:Nat}{sc:Scope}{N:List Str}{df:Bool}{m:List Nat}{a b:E}{xa xb:Expr}{pos:Pos}
noncomputable def hasB(N:List Str)(m:List Nat)(x:Str)(i:Nat):Bool:=(List.range N.length).any λj=>m[j]?==some i&&N[j]?==some x
def hasB.of{x:Str}{i:Nat}(h:hasB N m x i=true):∃j:Nat,m[j]?=some i/\N[j]?=some x:=by
 obtain⟨j,_,q⟩:=List.any_eq_true.mp h;rw[W2]at q;exact⟨j,by simpa using q.1,by simpa using q.2⟩
noncomputable def vB (sc:Scope) (N:List Str) (m:List Nat) (x:Str) (i:Nat):Bool:=hasB N m x i&&(sc.names.lookup x==some .local ||sc.names.lookup x==some .cell ||sc.names.lookup x==some .free)&&!(x==("__debug__" : Str))&&!(x==("__classdict__" : Str))
def jv{x:Str}{i:Nat}(h:vB sc N m x i=true):JE G n sc N df m (.v i) (.Name x pos):=by
 unfold vB at h;simp only[W2,abi,aaR]at h;obtain⟨⟨⟨d,c⟩,e⟩,f⟩:=h;obtain⟨j,g,l⟩:=hasB.of d;exact WA j i g l (by rcases c with (c|c)|c;exact .inl (by simpa using c);exact .inr (.inl (by simpa using c));exact .inr (.inr (by simpa using c))) e f
noncomputable def gB(sc:Scope)(N:List Str)(df:Bool)(m:List Nat)(x:Str)(i:Nat):Bool:=hasB N m x i&&(sc.names.lookup x==some .local || (df&&sc.names.lookup x==some .cell))&&decide m.Nodup&&decide N.Nodup
theorem gB.of{x:Str}{i:Nat}(h:gB sc N df m x i=true):∃j:Nat,m[j]?=some i/\N[j]?=some x/\(sc.names.lookup x=some .local\/(df=true/\sc.names.lookup x=some .cell))/\m.Nodup/\N.Nodup:=by
 unfold gB at h;simp only[W2,aaR]at h;obtain⟨⟨⟨d,c⟩,e⟩,f⟩:=h;obtain⟨j,g,l⟩:=hasB.of d;exact⟨j,g,l,by rcases c with c|⟨c,o⟩;exact .inl (by simpa using c);exact .inr ⟨c,by simpa using o⟩,aaN e,aaN f⟩
def X7{x:Str}{i:Nat}(h:gB sc N df m x i=true):JG G n sc N df m (.one i) (.Name x pos):=by
 obtain⟨j,c,d,e,f,g⟩:=gB.of h;exact Nu j i f g c d e
def X8{x:Str}{i:Nat}{l:List Nat}{xs:List Expr}(h:gB sc N df m x i=true)(hs:ux G n sc N df m l xs):ux G n sc N df m (i :: l) (.Name x pos :: xs):=by
 obtain⟨j,c,d,e,f,g⟩:=gB.of h;exact FZ j i f g hs c d e
def WL{i:Nat}{x:Str}{pos':Pos}(h:gB sc N df m x i=true)(ha:JE G n sc N df m a xa)(hs:autoParam (∀env:Env,swapsWith xa (some (.Name x pos')) pos.line env=pure false) zf._auto_1):JS G n sc N df m (.set i a) (.Assign [.Name x pos'] xa pos):=by
 obtain⟨j,c,d,e,f,g⟩:=gB.of h;exact Nv j i f g ha hs c d e
noncomputable def UU (sc:Scope) (x:Str):Bool:=sc.names.lookup x==some .globalImplicit&&!(x==("__debug__" : Str))
def Yb{f:Nat}{i:FI}{es:Es}{x:Str}{e0:Expr}{xs:List Expr}{p:Pos}(h:UU sc x=true)(hf:G.fi[f]?=some i)(hx:i.name=x)(hs:JA G n sc N df m es (e0 :: xs))
  (hst:autoParam (∀env:Env,starEach (e0 :: xs) env=(false,eval e0 env) :: starEach xs env) zf._auto_1) (hpl:autoParam (∀env:Env,(backTo pos (starEach xs env)).any (·.1)=false) zf._auto_1) :
  JE G n sc N df m (.cl f es) (.Call (.Name x p) (e0 :: xs) [] pos):=by
 subst hx;unfold UU at h;simp only[W2,abi]at h;exact Td hf hs (by simpa using h.1) h.2 hst hpl
noncomputable def Yc:Expr->List Str
 |.Name x _=>[x]
 |.Tuple c _ _=>c.filterMap λy=>match y with|.Name x _=>some x|_=>none
 |_=>[]
noncomputable def UW(N:List Str)(m:List Nat)(scope:Scope):List (Str×Nat):=(N.zip m).filter λp=>scope.names.contains (p.1,NameKind.free)
noncomputable def cN(N:List Str)(m:List Nat)(scope:Scope)(tg:Expr):List Str:=Yc tg++(UW N m scope).map (·.1)
noncomputable def cM(N:List Str)(m:List Nat)(scope:Scope)(t:T):List Nat:=Ev.slots t++(UW N m scope).map (·.2)
def Tv{elt:E}{t:T}{it:Ev.It}{cond:Eo}{tg xi xe:Expr}{ifs:List Expr}{scope:Scope}(hn:rS sc N m scope t (cN N m scope tg) (cM N m scope t)=true)(hs:Ii sc scope=true)
  (hi:JI G n sc N df m it tg xi) (hg:JG G n (fK sc scope) (cN N m scope tg) false (cM N m scope t) t tg) (hc:JC G n (fK sc scope) (cN N m scope tg) false (cM N m scope t) cond ifs)
  (he:JE G n (fK sc scope) (cN N m scope tg) false (cM N m scope t) elt xe) (hf:autoParam (∀(env:Env) x,foldedSetIterable xi env x=pure x) zl._auto_1):JE G n sc N df m (.comp elt t it cond) (.ListComp xe [⟨tg,xi,ifs,0⟩] scope pos):=
 zQ hi hg hc he (namesOk.of hn) (lU.of hs) hf
def Tz{i:Nat}{x:Str}{pos' cpos:Pos}{elt:E}{t:T}{it:Ev.It}{cond:Eo}{tg xi xe:Expr}{ifs:List Expr}{scope:Scope}(h:gB sc N df m x i=true)(hn:rS sc N m scope t (cN N m scope tg) (cM N m scope t)=true)(hs:Ii sc scope=true)
  (hi:JI G n sc N df m it tg xi) (hg:JG G n (fK sc scope) (cN N m scope tg) false (cM N m scope t) t tg) (hc:JC G n (fK sc scope) (cN N m scope tg) false (cM N m scope t) cond ifs)
  (he:JE G n (fK sc scope) (cN N m scope tg) false (cM N m scope t) elt xe) (hf:autoParam (∀(env:Env) x,foldedSetIterable xi env x=pure x) zl._auto_1) :
  JS G n sc N df m (.set i (.comp elt t it cond)) (.Assign [.Name x pos'] (.ListComp xe [⟨tg,xi,ifs,0⟩] scope cpos) pos):=by
 obtain⟨j,c,d,e,f,g⟩:=gB.of h;exact KA j i f g hi hg hc he (namesOk.of hn) (lU.of hs) c d e hf
def WM{rest:List Expr}(ha:JT G n sc N df m a xa)(hb:JW G n sc N df m b (.BoolOp .And (xb :: rest) pos)):JT G n sc N df m (.an a b) (.BoolOp .And (xa :: xb :: rest) pos):=Nh (Ie ha hb)
def WN{rest:List Expr}(ha:JT G n sc N df m a xa)(hb:JW G n sc N df m b (.BoolOp .Or (xb :: rest) pos)):JT G n sc N df m (.orr a b) (.BoolOp .Or (xa :: xb :: rest) pos):=Nh (CW ha hb)
def allB(G:Tb)(n:Nat):List (Ss×Stmt×List Str)->Prop
 |[]=>True
 |p :: r=>kC G n (aU p.2.1) p.2.2 true (List.range p.2.2.length) p.1 (iH p.2.1)/\allB G n r
theorem allB.get:∀{l:List (Ss×Stmt×List Str)}{k:Nat}{p:Ss×Stmt×List Str},allB G n l->l[k]?=some p->kC G n (aU p.2.1) p.2.2 true (List.range p.2.2.length) p.1 (iH p.2.1)
 |[],_,_,_,e=>nomatch e
 |_ :: _,0,_,h,e=>by cases e;exact h.1
 |_ :: r,k+1,p,h,e=>allB.get (l:=r) (k:=k) h.2 (by simpa using e)
end
end Sm
namespace Sm
open PySem PySem.Spec PyProof.Rows L2 PySem.SeqAt
open Ev (D O Hh Fr R aS E Es Eo T S Ss Fl Src bV bR TY BI ME)
section
variable{a c:E}{pos:Pos}
noncomputable def Oi(K:PySem.W.Frag)(kT:List (TE×TE)):TE:=λσ H Q=>∀p,H p=none->K.lookup p=none->rM kT σ (upd H p (.dK [])) λps H2=>H2 p=some (.dK [])/\∃kvs:List (Key×V),ps=kvs.map (λb=>(kV b.1,b.2))/\kvs.length<=15/\Q (.ref p) (upd H2 p (.dK (g7 [] kvs)))
def Gw{X:Cx}{keys:List (Option Expr)}{values:List Expr}{kT:List (TE×TE)}(h:CS X pos keys values kT)(hall:keys.all (·.isSome)=true)(hl:keys.length=values.length)(h0:keys≠[])
  (UX:keys.length<=15):PE X (.Dict keys values pos) (Oi X.K kT):=by
 intro b s σ H Q I q;have g:=I.hok.fresh (aae s.heap.objs.size);have i:X.K.lookup s.heap.objs.size=none:=by
  cases z:X.K.lookup s.heap.objs.size with
  |none=>rfl
  |some o=>exact absurd (aan (I.t8 _ _ z)) (aaF _)
 have I1:=I.laid (a:=s.heap.objs.size) (o:=.dK []) (h':=s.heap.push { cls:=.type "dict",data:=.dict #[]}) (t':=s.toks) (λ_ _ q=>aac _ q) (aae _) (we s.heap I.big);refine wpAny_Dict_walk (knd:=aQ X.prog X.w) hall hl h0 UX (bQ (h b _ σ _ _ I1 (q _ g i)) λG s2 ⟨ps,H2,I2,d,e,kvs,j,J,l⟩=>?_);subst j;obtain⟨p,c,r⟩:=rN (P:=X.prog) (w:=X.w) d;obtain⟨z,x,Zi,y,dd⟩:=Bm I2.hok e;cases y;refine⟨p,c,dd,λh' f A=>⟨.ref s.heap.objs.size,_,?_,rfl,l⟩⟩;have B:(g7 [] kvs).length<=sizeLine:=by
  have C:=jO kvs [];rw[ab4]at C;rw[aa8];omega
 have F:∃q,h'.get? s.heap.objs.size=some q:=let ⟨q,_,_,hq,_⟩:=f;⟨q,hq⟩;exact pO I2 (by rw[e];exact True.intro) A F (rL B x (r.merge .nil) f)
inductive JP:List (D×D)->List (Option Expr)->List Expr->Prop
 |nil:JP [] [] []
 |cons {k v:List Nat} {x y:Str} {i j} {p q:Pos} {kvs:List (D×D)} {ks:List (Option Expr)} {vs:List Expr} (h:JP kvs ks vs) (hx:x=aO k:=by decide +kernel) (hy:y=aO v:=by decide +kernel):JP ((.str k,.str v) :: kvs) (some (.Constant (.str x) i p) :: ks) (.Constant (.str y) j q :: vs)
noncomputable def rW:List (D×D)->List (Key×V)
 | (.str k,.str v) :: r=>(Sum.inr (aO k),V.str (aO v)) :: rW r
 |_=>[]
def Oj{X:Cx}{kvs:List (D×D)}{ks:List (Option Expr)}{vs:List Expr}(h:JP kvs ks vs):∃kT,CS X pos ks vs kT/\(∀σ H Q,Q ((rW kvs).map λkv=>(kV kv.1,kv.2)) H->rM kT σ H Q)/\ks.all (·.isSome)=true/\ks.length=vs.length/\ks.length=kvs.length/\(rW kvs).length=kvs.length:=by
 induction h with
 |nil=>exact⟨[],Kl,λ_ _ _ h=>h,rfl,rfl,rfl,rfl⟩
 |cons _ b d e=>
  obtain⟨kT,f,g,i,j,l,o⟩:=e;subst b;subst d;exact⟨_,FJ vR vR f,λσ H Q h=>g σ H _ h,by simp[i],by simp[j],by simp[l],by simp[rW,o]⟩
end
def HR.nN{K:PySem.W.Frag}{H:Hp}{r:List Addr}{h:Hh}{p:Addr}{kvs:List (List Nat×List Nat)}(hr:HR K H r h)(hp:H p=none)(h0:kvs≠[])(hl:∀q∈kvs,q.2.length<=sizeLine):HR K (upd H p (.dK (jP kvs))) (r++[p]) (h++[.fj kvs]) where
 len:=by simp[hr.len]
 ob:=λn ob e=>by
  by_cases l:n<h.length
  .rw[yy l]at e;obtain⟨a,b,z⟩:=hr.ob n ob e;exact⟨a,(Fm.laid (K:=K) (o:=.dK (jP kvs)) hp).pre n a b,z.mono (Fm.laid hp) (λ_ C _ z=>by rw[aJ (bh z hp)];exact z) (λ_ _ z=>by rw[aJ (bh z hp)];exact z)
    (λ_ _ z _=>by rw[aJ (bh z hp)];exact z)⟩
  .have c:=(List.getElem?_eq_some_iff.mp e).1;simp only[aam,aaH]at c;have d:n=h.length:=by omega
   subst d;simp at e;subst e;exact⟨p,by rw[<-hr.len];simp,dZ,h0,hl⟩
 inj:=λn m a x y b c d g=>by
  have out:∀(k:Nat) z,(h++[O.fj kvs])[k]?=some (.lst z)->(r++[p])[k]?=some a->r[k]?=some a/\h[k]?=some (.lst z):=λk z f i=>by
   by_cases j:k<h.length
   .rw[yy j]at f;rw[yy (by rw[hr.len];exact j)]at i;exact⟨i,f⟩
   .have A:=(List.getElem?_eq_some_iff.mp f).1;simp only[aam,aaH]at A;have B:k=h.length:=by omega
    subst B;simp at f
  exact hr.inj n m a x y (out n x d b).1 (out m y g c).1 (out n x d b).2 (out m y g c).2
 ox:=hr.ox.push hr.len rfl (hr.ox.fresh hp) (Fm.laid (K:=K) (r:=r) hp).tups (qL hp)
abbrev zY(kvs:List (List Nat×List Nat)):List (D×D):=kvs.map λp=>(.str p.1,.str p.2)
theorem Du:∀kvs:List (List Nat×List Nat),(∀p∈kvs,p.2≠[])->rW (zY kvs)=jP kvs
 |[],_=>rfl
 |p :: kvs,h=>by simp only[zY,aai,rW,jP,dv,aaj (h p (aaC ..))];exact aau _ (Du kvs λq a=>h q (aap _ a))
def Ol(kvs:List (List Nat×List Nat))(k:List Nat):iS (jP kvs) (Sum.inr (aO k):Key)=(Ev.tD kvs k).map dv:=by
 unfold iS Ev.tD jP;induction kvs with
 |nil=>rfl
 |cons p kvs a=>
  simp only[aai,List.find?_cons];by_cases h:p.1=k
  .simp[h]
  .rw[aav h,aav (λz=>h (iI (Sum.inr.inj z)))];exact a
section
variable{G:Tb}{n:Nat}{sc:Scope}{N:List Str}{df:Bool}{m:List Nat}{a b:E}{xa xb:Expr}{pos:Pos}
def Om{kvs:List (List Nat×List Nat)}{keys:List (Option Expr)}{vals:List Expr}(hj:JP (zY kvs) keys vals)(h0:keys≠[]:=by exact λh=>nomatch h)(UX:autoParam (kvs.length<=15) zP._auto_1)(hl:autoParam ((kvs.all λp=>decide (p.2.length<=1000/\p.2≠[]))=true) zP._auto_1)
  (Oo:autoParam (g7 [] (rW (zY kvs))=rW (zY kvs)) zi._auto_1):JE G n sc N df m (.nN kvs) (.Dict keys vals pos):=λX g=>by
 obtain⟨I,o,x,y,A,B,C⟩:=Oj (X:=X) (pos:=pos) hj;rw[aaq]at B;refine PE.of (Gw o y A h0 (by omega)) λs H Q q=>?_;obtain⟨r,J,h,d,K,L,j,e,q⟩:=q;simp only[Ev.ev]at e;split at e
 .cases e
 .rename_i i;cases e;intro p l F;refine x _ _ _ ⟨dZ,rW (zY kvs),rfl,by rw[C,aaq];omega,?_⟩;have c:∀z∈kvs,z.2.length<=1000/\z.2≠[]:=λz f=>aaN (List.all_eq_true.mp hl z f);rw[JM,Oo,Du _ λz f=>(c z f).2];exact q _ _ (r++[p]) ⟨p,rfl,by rw[<-j.len];simp⟩ (j.nN l i λz f=>aas (c z f).1 (by rw[aa8];decide)) (Fm.laid l)
def KS{h:Hh}{x y d:D}(e:Ev.wg x y h=some d):∃n kvs k s,x=.ref n/\h[n]?=some (.fj kvs)/\y=.str k/\Ev.tD kvs k=some s/\d=.str s/\s≠[]:=by
 unfold Ev.wg at e;split at e
 .split at e
  .rename_i z;obtain⟨s,c,e⟩:=Option.bind_eq_some_iff.mp e;split at e
   .cases e
   .rename_i f;cases e;exact⟨_,_,_,s,rfl,z,rfl,c,rfl,f⟩
  .cases e
 .cases e
def Oq(ha:JE G n sc N df m a xa)(hb:JE G n sc N df m b xb)(hs:autoParam (Bo xb) zl._auto_1):JE G n sc N df m (.nP a b) (.Subscript xa xb pos):=λX g=>PE.of (zH (vj g.room) (ha X g) (hb X g) hs) λs H Q q=>by
 obtain⟨r,A,h,d,h',B,J,e,q⟩:=q;simp only[Ev.ev]at e;obtain⟨x,C,K,L⟩:=Ev.ai e;obtain⟨y,h2,M,P⟩:=Ev.ai L;obtain⟨W,Y⟩:=Ev.aF P;subst Y;refine⟨r,A,h,x,C,B,J,K,λv H1 Z v1 j f1=>?_⟩;refine⟨Z,A,C,y,_,B.mono f1,j,M,λu H2 r2 F f f2=>?_⟩;obtain⟨i,kvs,k,w,rfl,z,rfl,l,rfl,o⟩:=KS W;obtain⟨p,z1,z2,_,z3⟩:=f.fj z;obtain⟨p',rfl,I⟩:=v1.mono f2;rw[z1]at I;cases I;simp only[RV]at F;obtain⟨rfl,_⟩:=F;have hw:∃c∈kvs,c.2=w:=by
  unfold Ev.tD at l;obtain⟨c,e3,rfl⟩:=Option.map_eq_some_iff.mp l;exact⟨c,List.mem_of_find?_eq_some e3,rfl⟩
 obtain⟨c,UY,rfl⟩:=hw;refine⟨p,.str (aO c.2),rfl,?_,q _ H2 r2 ⟨rfl,z3 c UY⟩ f (f1.trans f2)⟩;have:=m7.k (k:=Sum.inr (aO k)) z2;rw[Ol,l,Option.map_some,dv,aaj o]at this;exact this
end
end Sm
namespace Sm
open PySem PySem.Spec PyProof.Rows L2
def uJ:entryFor table "dict.update.loop" = some Builtin.«dict.update.loop»:=entryFor_of_tree (by kernel_rfl)
def kZ:plainId "dict.update.loop" = true:=by decide +kernel
def Dv:typeLookup (.type "list") "keys" = pure none:=by rw[abt,aa1];kernel_rfl
section
variable{P:Program}{w:World}{A:Around}{E:Value->Shared->Prop}{s:Shared}
def Dw {a:Addr}{xs:Array Value}{k:Nat}{sl:Array (Option Value)}{Q:Option Value->Shared->Prop}(hx:s.heap.get? a=some { cls:=.type "list",dict:=none,data:=.seq xs k,slots:=sl }) (hA:A.handled=none)
  (h:∀h' tk,(∀b o,s.heap.get? b=some o->h'.get? b=some o)->Q none { s with heap:=h',toks:=tk }) :
  wpAny (model P w) A (getAttr? (.ref a) "keys") Q E s:=by
 obtain⟨j,g,d,tk,l⟩:=s;have i:∀c,(⟨j,g,d,c,l⟩:Shared).TypeIs (.ref a) "list" :=λ_=>⟨_,hx,rfl⟩
 have f1:=sub_AttributeError;have f3:=F.slot_list_getattribute.lookup;have f4:=F.slot_list_getattribute.bind (.ref a);have f5:=am_list_getattr_none;unfold getAttr? getAttrBy? getAttrBy;repeat (any_goals (first|assumption|exact i _ | ((with_reducible show wpAny _ _ (call (Value.builtin "list.__getattribute__") _ _) _ _ _);refine abr F.slot_list_getattribute (i _) am_entry_list_getattribute (F.args_list_getattribute_2 _ _) (meets_getattribute_miss_list a xs k sl "keys" _ Dv (by decide +kernel)) ⟨hx,hA,λh' c e f=>?_⟩)|wp_step))
 obtain⟨p,q,r⟩:=f.there;show wpAny _ _ (getattributeRaised _ _ _ _ _ _ _) _ _ _;unfold getattributeRaised;repeat (any_goals (first|assumption|wp_step))
 exact h _ _ f.of.keeps
def Pr(P:Program)(w:World)(h:Heap)(D I:Addr)(u:Value)(kv:Key×Value):Prop:=
 ∃b o key n,u=.ref b/\h.get? b=some o/\o.cls=.type "tuple" /\o.data=.seq #[key,kv.2] n/\(aQ P w).is kv.1 key=true/\b≠D/\b≠I
def Pr.keep{h h':Heap}{D I:Addr}{u:Value}{kv:Key×Value}(p:Pr P w h D I u kv)(q:∀b o,b≠D->b≠I->h.get? b=some o->h'.get? b=some o):Pr P w h' D I u kv:=by
 obtain⟨b,o,a,n,e,f,g,i,j,c,d⟩:=p;exact⟨b,o,a,n,e,q b o c d f,g,i,j,c,d⟩
def Dy{R:Result->Shared->Prop}{D I:Addr}{items:Array Value}{l:Addr}{rs:List (Key×Value)}{res:Value}(hh:A.in1.handled=none)(hne:l≠I)(Ot:D≠I)(IE:D≠l)(hl:rs.length=items.size)(hb:items.size<=100000) :
  ∀(k i:Nat) (c:Int) (tc:Tok) (s:Shared),items.size - i=k->i<=items.size->s.heap.IsListIter I l i/\s.heap.IsList l items->(∀(j:Nat) (u:Value),items[j]?=some u->∃kv,rs[j]?=some kv/\Pr P w s.heap D I u kv)->
   s.heap.DictOf (aQ P w) D (merged [] (rs.take i))->
   (∀h' tk,(∀b o,b≠D->b≠I->s.heap.get? b=some o->h'.get? b=some o)->h'.DictOf (aQ P w) D (merged [] rs)->R (.ok (.ret res)) { s with heap:=h',toks:=tk })->
   codeAny (model P w) A (.builtin "dict.update.loop" ⟨[.ref D,.ref I,.int c tc,res],[]⟩) R s:=by
 have W:=Walks.list (prog:=P) (w:=w) hh I l hne items;intro k;induction k with
 |zero=>
  intro i c tc s Q X r x p y;have:i=items.size:=by omega
  subst this;refine codeAny_builtin uJ ?_;rw[Around.under_plainId kZ _];show wpAny _ A.in1 (pyNext (.ref I) >>= _) _ _ s;refine gV (W.done s _ _ r λh' tk q=>?_);rw[aaM (by omega)]at p;refine aaf (y h' tk (λb o _ z=>q b o (by simpa using z)) ?_);exact p.at λo e=>q D o (by simpa using Ot) e
 |succ k Y=>
  intro i c tc s Q X r x p y;have B:i<items.size:=by omega
  refine codeAny_builtin uJ ?_;rw[Around.under_plainId kZ _];show wpAny _ A.in1 (pyNext (.ref I) >>= _) _ _ s;refine gV (W.item i s _ _ B r λv d t1 Z f J=>?_);obtain⟨kv,hr,hk⟩:=x i v Z;have C:∀b o,b≠D->b≠I->s.heap.get? b=some o->d.get? b=some o:=λb o _ z=>J b o (by simpa using z);obtain⟨b,o,g,n,rfl,K,g2,g3,g4,g5,g6⟩:=hk.keep C;refine gV (wpAny_holding ?_);refine gV (wpAny_tryCatch ?_);unfold Builtin.Dict.pairItems;refine gV (acm (T:="tuple") ⟨o,K,g2⟩ ?_);show wpAny _ _ (seqItems? (.ref b) >>= _) _ _ _;refine gV (wpAny_seqItems K g3 ?_);refine aaf ?_;show wpAny _ _ (holding [g,kv.2] (dictSet D g kv.2)) _ _ _;have wU:Heap.DictOf (aQ P w) d D (merged [] (rs.take i)):=p.at λo e=>J D o (by simpa using Ot) e;have F:(merged [] (rs.take i)).length<=sizeLine:=by
   have d:=merged_length_le ([]:List (Key×Value)) (rs.take i);have L:(rs.take i).length<=rs.length:=List.length_take_le' _ _;have M:100000<=sizeLine:=by decide
   simp only[ab4]at d;omega
  refine wpAny_holding (wpAny_dictSet_pairs g4 wU (λL hD G=>?_) F);have ht:=merged_take_succ [] rs i kv hr;have N:∀b o,b≠D->b≠I->d.get? b=some o->L.get? b=some o:=λb o a _ e=>by rw[G.2 b a];exact e
  refine aaf ⟨plainId_quiet kZ _,Y (i+1) _ _ _ (by omega) (by omega) ?_ (λj u hu=>?_) ?_ λM t3 q3 S3=>?_⟩
  .exact⟨f.1.at λo e=>by rw[G.2 I (abk Ot)];exact e,f.2.at λo e=>by rw[G.2 l (abk IE)];exact e⟩
  .obtain⟨H,a,h⟩:=x j u hu;exact⟨H,a,(h.keep C).keep N⟩
  .rw[ht];exact hD
  .exact y M t3 (λb o a h e=>q3 b o a h (N b o a h (C b o a h e))) S3
def Dz {l:Addr}{items:Array Value}{k:Nat}{sl:Array (Option Value)}{rs:List (Key×Value)}{Q:Value->Shared->Prop}(hh:A.handled=none) (hx:s.heap.get? l=some { cls:=.type "list",dict:=none,data:=.seq items k,slots:=sl }) (hl:rs.length=items.size) (hb:items.size<=100000)
  (hp:∀(j:Nat) (u:Value),items[j]?=some u->∃kv,rs[j]?=some kv/\∃b o key n,u=.ref b/\s.heap.get? b=some o/\o.cls=.type "tuple" /\o.data=.seq #[key,kv.2] n/\(aQ P w).is kv.1 key=true)
  (h:∀h' tk,h'.DictOf (aQ P w) s.heap.objs.size (merged [] rs)->(∀b o,s.heap.get? b=some o->h'.get? b=some o)->Q (.ref s.heap.objs.size) { s with heap:=h',toks:=tk }) :
  wpAny (model P w) A (call (.type "dict") [.ref l]) Q E s:=by
 refine callType_codes (Q₁:=λc i=>c=.ref s.heap.objs.size/\i={ s with heap:=s.heap.push { cls:=.type "dict",data:=.dict #[]}}) F.kt_called_dict (F.kt_typeCall_dict_1 _) F.entry_dict_init (kt_code_dict_new _ ⟨rfl,rfl⟩) ?_;rintro c i ⟨rfl,rfl⟩;have a:(s.heap.push { cls:=.type "dict",data:=.dict #[]}).DictOf (aQ P w) s.heap.objs.size []:=Heap.DictOf.new s.heap;have Ou:(s.heap.push { cls:=.type "dict",data:=.dict #[]}).get? l=some { cls:=.type "list",dict:=none,data:=.seq items k,slots:=sl }:=aac _ hx;refine⟨a.typeIs,F.args_dict_init_2 _ _,?_⟩;unfold Builtin.«dict.__init__»;refine gV ?_;unfold Builtin.Dict.selfAndRest;refine gV (wpAny_notOrdered_dict a.typeIs ?_);show wpAny _ _ (pure (s.heap.objs.size,[Value.ref l])) _ _ _;refine aaf ?_;show wpAny _ _ (Builtin.Dict.updateFrom "dict.__init__" s.heap.objs.size (.ref l) [] .none) _ _ _;unfold Builtin.Dict.updateFrom;refine gV (acm (T:="list") ⟨_,Ou,rfl⟩ ?_);rw[LV (by decide)];refine gV ?_;refine Dw Ou (by simp[hh]) λd tk g=>?_;have IE:d.DictOf (aQ P w) s.heap.objs.size []:=a.at λo e=>g _ _ e;have IF:d.IsList l items:=⟨_,g _ _ Ou,rfl,_,rfl⟩
 have kp:∀b o,s.heap.get? b=some o->d.get? b=some o:=λb o e=>g b o (aac _ e);have f:s.heap.objs.size<d.objs.size:=by
  obtain⟨q,_,_,y,_⟩:=IE;exact aan y
 have p:l<s.heap.objs.size:=aan hx;rw[LV (show(none:Option Value).isNone=true from rfl)];refine gV (acR ?_);refine gV (wpAny_pyIter_list (l:=l) (items:=items) IF ?_);refine aaf ⟨plainId_quiet kZ _,?_⟩;refine Dy (I:=d.objs.size) (l:=l) (items:=items) (rs:=rs) (by simp[hh]) (aaB (Nat.lt_trans p f)) (aaB f) (acY p) hl hb items.size 0 _ _ _ (by omega) (by omega) ⟨⟨_,aat _ rfl,rfl,rfl⟩,IF.push _⟩ (λj u z=>?_) ?_ λh' B q D'=>?_
 .obtain⟨kv,C,b,o,key,n,G,r,H,J,K⟩:=hp j u z;have x:=aan r;exact⟨kv,C,b,o,key,n,G,aac _ (kp _ _ r),H,J,K,aaB x,aaB (Nat.lt_trans x f)⟩
 .exact IE.push _
 .refine⟨rfl,h _ _ D' λb o e=>q b o (aaB (aan e)) (aaB (Nat.lt_trans (aan e) f)) (aac _ (kp _ _ e))⟩
end
end Sm
namespace Sm
open PySem PySem.Spec PyProof.Rows
def Rs(xs:Array Nat):Prop:=xs.toList.Pairwise (· < ·)
def Rs.lt{xs:Array Nat}(h:Rs xs){i j:Nat}(a:i<j)(b:j<xs.size):xs.getD i 0<xs.getD j 0:=by
 have c:i<xs.size:=Nat.lt_trans a b;have d:xs.getD i 0=xs.toList[i]'(by simpa using c):=by simp[Array.getD,c]
 have e:xs.getD j 0=xs.toList[j]'(by simpa using b):=by simp[Array.getD,b]
 rw[d,e];exact(List.pairwise_iff_getElem.mp h) i j _ _ a
theorem qR{xs:Array Nat}{j:Nat}(h:Rs xs):∀(f lo hi:Nat),lo<=hi->hi<=xs.size->hi - lo<=f->(∀i,i<lo->xs.getD i 0<j)->(∀i,hi<=i->i<xs.size->j<=xs.getD i 0)->
  SetTable.below.go xs j f lo hi<=xs.size/\(∀i,i<SetTable.below.go xs j f lo hi->xs.getD i 0<j)/\∀i,SetTable.below.go xs j f lo hi<=i->i<xs.size->j<=xs.getD i 0
 |0,lo,hi,a,b,c,d,e=>by
  have:lo=hi:=by omega
  subst this;exact⟨b,d,e⟩
 |f+1,lo,hi,a,b,c,d,e=>by
  unfold SetTable.below.go;by_cases q:lo<hi
  .rw[LV q];have l:(lo+hi) / 2<xs.size:=by omega
   have o:xs.getD ((lo+hi) / 2) j=xs.getD ((lo+hi) / 2) 0:=by simp[Array.getD,l]
   dsimp only;rw[o];by_cases z:xs.getD ((lo+hi) / 2) 0<j
   .rw[LV z];refine qR h f _ hi (by omega) b (by omega) (λi g=>?_) e;by_cases y:i=(lo+hi) / 2
    .rw[y];exact z
    .exact Nat.lt_trans (h.lt (show i<(lo+hi) / 2 by omega) l) z
   .rw[aaj z];refine qR h f lo _ (by omega) (by omega) (by omega) d (λi g p=>?_);by_cases y:i=(lo+hi) / 2
    .rw[y];omega
    .have:=h.lt (show(lo+hi) / 2<i by omega) p;omega
  .rw[aaj q];have:lo=hi:=by omega
   subst this;exact⟨b,d,e⟩
def qS{xs:Array Nat}{j:Nat}(h:Rs xs):SetTable.below xs j<=xs.size/\(∀i,i<SetTable.below xs j->xs.getD i 0<j)/\∀i,SetTable.below xs j<=i->i<xs.size->j<=xs.getD i 0:=
 qR h xs.size 0 xs.size (aaU _) (aae _) (by omega) (λ_ q=>absurd q (Nat.not_lt_zero _)) (λi a b=>absurd b (by omega))
def zZ{xs:Array Nat}{i:Nat}(h:i<xs.size):xs[i]?=some (xs.getD i 0):=by simp[Array.getD,h]
def below_at{xs:Array Nat}(h:Rs xs){i:Nat}(hi:i<xs.size){j:Nat}(a:j<=xs.getD i 0)(b:∀k,k<i->xs.getD k 0<j):SetTable.below xs j=i:=by
 obtain⟨c,d,e⟩:=qS (j:=j) h;rcases Nat.lt_trichotomy (SetTable.below xs j) i with q|q|q
 .have:=e _ (aae _) (by omega);have:=b _ q;omega
 .exact q
 .have:=d _ q;omega
def DA{xs:Array Nat}(h:Rs xs){j:Nat}(b:∀k,k<xs.size->xs.getD k 0<j):SetTable.below xs j=xs.size:=by
 obtain⟨c,d,e⟩:=qS (j:=j) h;rcases Nat.lt_or_ge (SetTable.below xs j) xs.size with q|q
 .have:=e _ (aae _) q;have:=b _ q;omega
 .omega
def DB{xs:Array Nat}(h:Rs xs){j:Nat}(n:xs[SetTable.below xs j]?≠some j):Rs (SetTable.insertAt xs (SetTable.below xs j) j):=by
 obtain⟨c,d,e⟩:=qS (j:=j) h;unfold Rs;rw[SetTable.toList_insertAt,List.pairwise_append];have r:∀x∈xs.toList.drop (SetTable.below xs j),j<x:=by
  intro x g;obtain⟨i,l,rfl⟩:=List.mem_iff_getElem.mp g;rw[abZ,abE]at l;rw[List.getElem_drop];have f:SetTable.below xs j+i<xs.size:=by omega
  have o:xs.toList[SetTable.below xs j+i]'(by simpa using f)=xs.getD (SetTable.below xs j+i) 0:=by simp[Array.getD,f]
  rw[o];have B:=e _ (aae _) (show SetTable.below xs j<xs.size by omega);have C:xs.getD (SetTable.below xs j) 0≠j:=λq=>n (by rw[zZ (by omega),q]);by_cases z:i=0
  .subst z;rw[Nat.add_zero];omega
  .have:=h.lt (show SetTable.below xs j<SetTable.below xs j+i by omega) (by omega);omega
 have y:∀x∈xs.toList.take (SetTable.below xs j),x<j:=by
  intro x g;obtain⟨i,l,rfl⟩:=List.mem_iff_getElem.mp g;rw[abA,abE]at l;rw[List.getElem_take];have f:i<xs.size:=by omega
  have o:xs.toList[i]'(by simpa using f)=xs.getD i 0:=by simp[Array.getD,f]
  rw[o];exact d i (by omega)
 refine⟨h.sublist (List.take_sublist _ _),List.pairwise_cons.mpr ⟨r,h.sublist (List.drop_sublist _ _)⟩,λa A b p=>?_⟩;rcases List.mem_cons.mp p with rfl|p
 .exact y a A
 .exact Nat.lt_trans (y a A) (r b p)
def Gx(n:Nat):Rs (Array.range n):=by
 unfold Rs;rw[Array.toList_range];exact List.pairwise_lt_range
def Tw(t:SetTable):Prop:=t.dummies = #[]/\Rs t.place
def KU{j:Nat}:SetTable.has #[] j=false:=rfl
theorem wV{t:SetTable}(hd:t.dummies = #[]){f:Nat->Int}{h:Int}:∀(n:Nat) (p:SetTable.Probe) {j:Nat}{d:Option Nat},p.dummy=none->SetTable.probe.go t f h n p=some (.empty j d)->d=none/\t.place[SetTable.below t.place j]?≠some j
 |0,p,j,d,hp,e=>by cases e
 |n+1,p,j,d,hp,e=>by
  unfold SetTable.probe.go at e;cases hs:t.slot p.j with
  |empty=>
   rw[hs]at e;dsimp only at e;injection e with e
   injection e with e1 e2
   subst e1;refine⟨by rw[<-e2];exact hp,λq=>?_⟩;unfold SetTable.slot at hs;dsimp only at hs;rw[q]at hs;simp at hs
  |dummy=>
   unfold SetTable.slot at hs;dsimp only at hs;rw[hd]at hs;split at hs<;>cases hs
  |live i=>
   rw[hs]at e;dsimp only at e;split at e
   .cases e
   .refine wV hd n _ ?_ e;unfold SetTable.advance;split<;>exact hp
theorem Tw.standIn(t:SetTable)(n:Nat):Tw (t.standIn n):=⟨rfl,Gx n⟩
def Tw.lay{t:SetTable}(w:Tw t){es:Array (Int×Value)}{h:Int}{x:Value}:Tw (layNew t es h x).2.1/\(layNew t es h x).2.1.led=t.led:=by
 unfold layNew;cases hf:t.freeSlot h with
 |none=>exact⟨.standIn _ _,rfl⟩
 |some q=>
  obtain⟨slot,c⟩:=q;dsimp only;unfold SetTable.freeSlot at hf;split at hf
  .rename_i j d a;obtain⟨rfl,b⟩:=wV w.1 _ _ rfl a;cases hf;rw[show((none:Option Nat).getD j)=j from rfl];unfold SetTable.orStandIn;split
   .refine⟨⟨?_,DB w.2 b⟩,rfl⟩;show(if SetTable.has t.dummies j then _ else t.dummies) = #[];rw[w.1,KU];rfl
   .exact⟨.standIn _ _,rfl⟩
  .cases hf
def Tw.Gy{t:SetTable}(w:Tw t):Tw { t with plain:=false }:=w
def Tw.TF{t:SetTable}{es:Array (Int×Value)}{n:Nat}:Tw (relayAll t es n).2.1/\(relayAll t es n).2.1.led=t.led:=by
 unfold relayAll;cases hr:t.relaid (es.map (·.1)) n with
 |none=>exact⟨.standIn _ _,rfl⟩
 |some q=>
  obtain⟨g,o⟩:=q;dsimp only;split
  .unfold SetTable.relaid SetTable.laid at hr;obtain⟨h,_,e⟩:=Option.bind_eq_some_iff.mp hr;cases e;refine⟨⟨rfl,?_⟩,rfl⟩;show List.Pairwise _ (List.map _ _);rw[List.pairwise_map];refine List.Pairwise.filterMap _ (R:=(· < ·)) (λa b c x d y f=>?_) List.pairwise_lt_range;simp only[aab]at d f;obtain⟨_,_,rfl⟩:=d;obtain⟨_,_,rfl⟩:=f;exact c
  .exact⟨.standIn _ _,rfl⟩
end Sm
namespace Sm
open PySem PySem.Spec PyProof.Rows L2
noncomputable def eG:Value->Key
 |.int n _=>.inl n
 |.str x _=>.inr x
 |_=>.inl 0
inductive Ky:Value->Prop where
 |i (n:Int) (t:Tok):Ky (.int n t)
 |s (x:Str) (t:Tok):Ky (.str x t)
def Ky.is{v:Value}(h:Ky v):kQ (eG v) v=true:=by
 cases h
 .exact tZ _ _
 .exact t6 _ _
def Ky.sc{v:Value}(h:Ky v):v.scannable=true:=by cases h<;>rfl
inductive SW(P:Program)(w:World)(h:Heap)(a:Addr)(ks:List Key):Prop where
 |mk (es:Array (Int×Value)) (ep:Nat) (t:SetTable) (ob:h.get? a=some { cls:=.type "set",dict:=none,data:=.set es ep t })
   (el:∀e∈es.toList,e.1=(aQ P w).hash (eG e.2)/\Ky e.2) (fit:t.fits es.size=true) (sm:es.size<scanBound) (tw:Tw t) (led:w.params.followText "set-order" = false->t.led=true)
   (pm:(es.toList.map λe=>eG e.2).Perm ks) (nd:ks.Nodup)
def TH{P:Program}{w:World}{es:List (Int×Value)}(el:∀e∈es,e.1=(aQ P w).hash (eG e.2)/\Ky e.2):ElemsOf (aQ P w) es:=λe a=>
 ⟨⟨_,(el e a).2.is,(el e a).1⟩,(el e a).2.sc⟩
def SW.at'{P:Program}{w:World}{h h':Heap}{a:Addr}{ks:List Key}(z:SW P w h a ks)(k:∀o,h.get? a=some o->h'.get? a=some o):SW P w h' a ks:=by
 obtain⟨b,c,t,d,x⟩:=z;exact⟨b,c,t,k _ d,‹_›,‹_›,‹_›,‹_›,‹_›,‹_›,‹_›⟩
noncomputable def gu(ks:List Key)(k:Key):List Key:=open Classical in if k∈ks then ks else ks++[k]
def Gz(ks:List Key)(k:Key):(gu ks k).length<=ks.length+1:=by unfold gu;split<;>simp
def tO{ks:List Key}{k:Key}(h:ks.Nodup):(gu ks k).Nodup:=by
 unfold gu;split
 .exact h
 .rename_i q;exact List.nodup_append.mpr ⟨h,by simp,λa d b c=>by simp at c;subst c;intro e;subst e;exact q d⟩
section
variable{P:Program}{w:World}{A:Around}{E:Value->Shared->Prop}{s:Shared}
def KW{a:Addr}{ks:List Key}{x:Value}{Q:Bool->Shared->Prop}(hx:Ky x)(S:SW P w s.heap a ks)(hr:ks.length+1<scanBound)
  (h:∀b h',Heap.SameBut a s.heap h'->SW P w h' a (gu ks (eG x))->Q b { s with heap:=h' }):wpAny (model P w) A (setAddHashed a x ((aQ P w).hash (eG x))) Q E s:=by
 obtain⟨es,z,t,l,o,fit,J,tw,p,B,nd⟩:=S;have y:=TH o;have K:es.size=ks.length:=by rw[<-B.length_eq];simp
 unfold setAddHashed setAddHashedIn;refine wpAny_holding (gV (wpAny_setState_of l rfl fit ?_));dsimp only;rw[byScan_of hx.sc J y,LV rfl];unfold setAddByScan;refine gV (gV (acR (gV (wpAny_setScan_of (knd:=aQ P w) hx.is l rfl fit y ?_))));have g:eG x∈ks↔∃e∈es.toList,(aQ P w).is (eG x) e.2=true:=by
  rw[<-B.mem_iff,List.mem_map];constructor
  .rintro⟨e,f,q⟩;exact⟨e,f,by rw[<-q];exact(o e f).2.is⟩
  .rintro⟨e,f,q⟩;exact⟨e,f,((aQ P w).inj e.2 _ _ q (o e f).2.is).symm⟩
 cases hf:List.findIdx? (λe=>(aQ P w).is (eG x) e.2) es.toList with
 |some j=>
  obtain⟨W,C,_⟩:=List.findIdx?_eq_some_iff_getElem.mp hf;have i:eG x∈ks:=g.mpr ⟨_,List.getElem_mem W,C⟩;have X:=h false s.heap (Heap.SameBut.refl a s.heap) ⟨es,z,t,l,o,fit,J,tw,p,by rw[gu,LV i];exact B,tO nd⟩;exact aaf (aaf X)
 |none=>
  have i:eG x∉ks:=λq=>by
   obtain⟨e,f,C⟩:=g.mp q;have:=List.findIdx?_eq_none_iff.mp hf e f;rw[C]at this;cases this
  have Y:gu ks (eG x)=ks++[eG x]:=by rw[gu,aaj i]
  dsimp only;have M:∀(b:Bool) {s1:Shared} {Q1:Unit->Shared->Prop},Q1 () s1->wpAny (model P w) A (match b with|true=>rule "set.scan.the-table-gave-way" |false=>pure ()) Q1 E s1:=λb s1 Q1 q=>by
   cases b
   .exact aaf q
   .exact acR q
  obtain⟨DC,Ov⟩:=Tw.lay tw (es:=es) (h:=(aQ P w).hash (eG x)) (x:=x);have Aa:=layNew_perm t es ((aQ P w).hash (eG x)) x;have DE:=layNew_fits t es ((aQ P w).hash (eG x)) x;generalize layNew t es ((aQ P w).hash (eG x)) x=L at DC Ov Aa DE ⊢
  obtain⟨c,F,Z,gv⟩:=L;dsimp only at DC Ov Aa DE ⊢;rw[Array.toList_push]at Aa;have UZ:∀e∈c.toList,e.1=(aQ P w).hash (eG e.2)/\Ky e.2:=λe f=>by
   rcases List.mem_append.mp (Aa.mem_iff.mp f)with q|q
   .exact o e q
   .rw[List.mem_singleton.mp q];exact⟨rfl,hx⟩
  have U0:(c.toList.map λe=>eG e.2).Perm (gu ks (eG x)):=by
   rw[Y];exact(Aa.map _).trans (by rw[aao];exact B.append_right _)
  have U1:c.size<scanBound:=by
   have:=Aa.length_eq;simp at this;omega
  have Ox:w.params.followText "set-order" = false->F.led=true:=λq=>by rw[Ov];exact p q
  refine gV (M _ ?_);have fin:∀(d:SetTable),Tw d->d.led=F.led->d.fits c.size=true->wpAny (model P w) A (do
    storeSet a c d
    if (!Z&&d.tooFull)=true then do
      (match (relayAll d c (SetTable.grown c.size)).2.2 with|true=>rule "set.scan.the-table-gave-way" |false=>pure ():Sem Unit)
      storeSet a (relayAll d c (SetTable.grown c.size)).1 (relayAll d c (SetTable.grown c.size)).2.1
      pure (some true)
     else pure (some true):Sem (Option Bool)) (λr G=>∃h',r=some true/\G={ s with heap:=h' }/\Heap.SameBut a s.heap h'/\SW P w h' a (gu ks (eG x))) E s:=by
   intro d Yd U3 Ye;refine gV (wpAny_storeSet_of l rfl ?_ (fits_of_scanBound U1));have H:(s.heap.update a (Obj.putSet c d)).get? a=some { cls:=.type "set",dict:=none,data:=.set c (z+1) d }:=abe (Obj.putSet c d) l rfl;have U4:=ab7 s.heap a (Obj.putSet c d);split
   .have DF:=relayAll_perm d c (SetTable.grown c.size);have Oz:=relayAll_fits d c (SetTable.grown c.size);obtain⟨OA,OB⟩:=Tw.TF (t:=d) (es:=c) (n:=SetTable.grown c.size);generalize relayAll d c (SetTable.grown c.size)=L at DF Oz OA OB ⊢
    obtain⟨DG,N,g3⟩:=L;dsimp only at DF Oz OA OB ⊢;have U5:DG.size<scanBound:=by
     have:=DF.length_eq;simp at this;omega
    refine gV (M _ (gV (wpAny_storeSet_of H rfl (aaf ⟨_,rfl,rfl,U4.trans (ab7 _ a _),?_⟩) (fits_of_scanBound U5))));exact⟨DG,z+1+1,N,abe (Obj.putSet DG N) H rfl,λe f=>UZ e (DF.mem_iff.mp f),Oz,U5,OA,λq=>by rw[OB,U3];exact Ox q,(DF.map _).trans U0,tO nd⟩
   .exact aaf ⟨_,rfl,rfl,U4,c,z+1,d,H,UZ,Ye,U1,Yd,λq=>by rw[U3];exact Ox q,U0,tO nd⟩
  split
  .refine gV ?_;rw[hashByValue_scannable 8 hx.sc];refine aaf ?_;refine aa6 (fin _ ?_ ?_ ?_) (λr G q=>?_) λ_ _ q=>q
   .split
    .exact DC
    .exact DC.Gy
   .split<;>rfl
   .split
    .exact DE
    .exact SetTable.fits_plain_off DE
   .obtain⟨h',rfl,rfl,I,S'⟩:=q;exact aaf (h _ _ I S')
  .refine gV (aaf ?_);rw[LV rfl];refine aa6 (fin F DC rfl DE) (λr G q=>?_) λ_ _ q=>q;obtain⟨h',rfl,rfl,I,S'⟩:=q;exact aaf (h _ _ I S')
end
noncomputable def iX(ks:List Key)(vs:List Value):List Key:=vs.foldl (λk v=>gu k (eG v)) ks
theorem wX:∀(vs:List Value) (ks:List Key),(iX ks vs).length<=ks.length+vs.length
 |[],ks=>aae _
 |v :: vs,ks=>by
  have a:=wX vs (gu ks (eG v));have b:=Gz ks (eG v);show(iX (gu ks (eG v)) vs).length<=ks.length+(vs.length+1)
  omega
def GA(ks:List Key)(a b:List Value):iX ks (a++b)=iX (iX ks a) b:=abT
section
variable{P:Program}{w:World}{A:Around}{E:Value->Shared->Prop}{s:Shared}
def GB{R:Result->Shared->Prop}{I S:Addr}{items:Array Value}{l:Addr}(hh:A.in1.handled=none)(hne:l≠I)(wU:S≠I)(Yg:S≠l)(hb:items.size+1<scanBound)(hk:∀v∈items.toList,Ky v) :
  ∀(k i:Nat) (s:Shared),items.size - i=k->i<=items.size->s.heap.IsListIter I l i/\s.heap.IsList l items->SW P w s.heap S (iX [] (items.toList.take i))->
   (∀h' tk,(∀b o,b≠S->b≠I->s.heap.get? b=some o->h'.get? b=some o)->SW P w h' S (iX [] items.toList)->R (.ok (.ret .none)) { s with heap:=h',toks:=tk })->
   codeAny (model P w) A (.builtin "set.update.loop" ⟨[.ref S,.ref I],[]⟩) R s:=by
 have W:=Walks.list (prog:=P) (w:=w) hh I l hne items;intro k;induction k with
 |zero=>
  intro i s G H f d g;have:i=items.size:=by omega
  subst this;refine codeAny_builtin F.entry_set_update_loop ?_;rw[Around.under_plainId F.plain_set_update_loop _];show wpAny _ A.in1 (pyNext (.ref I) >>= _) _ _ s;refine gV (W.done s _ _ f λh' tk q=>?_);refine aaf (g h' tk (λb o _ z=>q b o (by simpa using z)) (SW.at' (by
   rw[show items.toList.take items.size=items.toList from aaM (by simp)]at d;exact d) λo e=>q S o (by simpa using wU) e))
 |succ k J=>
  intro i s G H f d g;have h:i<items.size:=by omega
  refine codeAny_builtin F.entry_set_update_loop ?_;rw[Around.under_plainId F.plain_set_update_loop _];show wpAny _ A.in1 (pyNext (.ref I) >>= _) _ _ s;refine gV (W.item i s _ _ h f λv r K x a y=>?_);have c:Ky v:=hk v (by
   have:items.toList[i]?=some v:=by rw[Array.getElem?_toList];exact x
   exact aag this)
  have j:=d.at' (h':=r) λo e=>y S o (by simpa using wU) e;show wpAny _ A.in1 (holding [v] (setAdd S v) >>= _) _ _ _;refine gV (wpAny_holding ?_);unfold setAdd;refine wpAny_holding (gV ((aQ P w).pyHash c.is ?_));refine KW (s:={ s with heap:=r,toks:=K+1 }) c j (by
   have:=wX (items.toList.take i) [];simp at this;omega) λb L p S2=>?_
  refine aaf ⟨plainId_quiet F.plain_set_update_loop _,J (i+1) _ (by omega) (by omega) ?_ ?_ λM N Q S3=>?_⟩
  .exact⟨a.1.at λo e=>by rw[p.2 I (abk wU)];exact e,a.2.at λo e=>by rw[p.2 l (abk Yg)];exact e⟩
  .have X:items.toList.take (i+1)=items.toList.take i++[v]:=by
    rw[List.take_add_one,Array.getElem?_toList,x];rfl
   rw[X,GA];exact S2
  .refine g M N (λb o B C e=>Q b o B C ?_) S3;show L.get? b=some o;rw[p.2 b B];exact y b o (by simpa using C) e
def KY(a:Value){Q:Value->Shared->Prop}
  (h:Q (.ref s.heap.objs.size) { s with heap:=s.heap.push { cls:=.type "set",dict:=none,data:=.set #[] 0 (.fresh 0 0 (!w.params.followText "set-order"))}}) :
  codeAny (model P w) A (.call (.builtin "set.__new__") ⟨[.type "set",a],[]⟩) (wants Q E) s:=by
 refine codeAny_of_tree ?_;refine gV (abj (PySem.F.newCall_set_1 a) (aaf ⟨plainId_quiet F.plain_set_new _,codeAny_builtin F.entry_set_new ?_⟩));rw[Around.under_plainId F.plain_set_new _];unfold Builtin.«set.__new__» Builtin.Frozenset.newClass;have b:=sub_set_self;obtain⟨c,g,d,tk,e⟩:=s;dsimp only
 wp_walk
 refine wpAny_askSetting (aaf ?_);dsimp only;simp only[newObj];exact gV (wpAny_alloc (aaf (aaf h)))
set_option maxHeartbeats 4000000 in
def GC{l:Addr}{items:Array Value}{Q:Value->Shared->Prop}(hh:A.handled=none)(hl:s.heap.IsList l items)(hk:∀v∈items.toList,Ky v)(hb:items.size+1<scanBound)
  (h:∀h' tk,SW P w h' s.heap.objs.size (iX [] items.toList)->(∀b o,s.heap.get? b=some o->h'.get? b=some o)->Q (.ref s.heap.objs.size) { s with heap:=h',toks:=tk }) :
  wpAny (model P w) A (call (.type "set") [.ref l]) Q E s:=by
 obtain⟨c,tl,L⟩:=F.called_set.mro;have M:=F.called_set.made;have N:=F.called_set.sub;refine wpAny_call (codeAny_of_tree ?_);show wpAny _ _ (callAny (.type "set") _) _ _ _;refine aaf ⟨Code.quiet_builtin _ (by decide +kernel),codeAny_builtin F.entry_type_call ?_⟩;rw[Around.under_plain (weight_type_call_type "set" [.ref l] []) rfl];have W:=F.called_set.notType;have X:=F.called_set.canCreate;have Y:=PySem.F.typeCall_set_1 (.ref l);repeat (any_goals (first|assumption|wp_step))
 refine acn (KY (.ref l) (E:=E) (Q:=λv s1=>v=.ref s.heap.objs.size/\s1={ s with heap:=s.heap.push { cls:=.type "set",dict:=none,data:=.set #[] 0 (.fresh 0 0 (!w.params.followText "set-order"))}}) ⟨rfl,rfl⟩) λr s1 q=>?_;cases r with
 |error e=>exact q
 |ok fl=>
  cases fl with
  |ret v=>
   obtain⟨rfl,rfl⟩:=q;generalize hso:({ cls:=.type "set",dict:=none,data:=.set #[] 0 (.fresh 0 0 (!w.params.followText "set-order"))}:Obj)=so
   have f:(s.heap.push so).get? s.heap.objs.size=some so:=aat _ (by subst hso;rfl);have x:Shared.TypeIs { s with heap:=s.heap.push so } (.ref s.heap.objs.size) "set" :=⟨_,f,by subst hso;rfl⟩
   have Z:=F.called_set.init.lookup;have y2:=F.called_set.init.bind (.ref s.heap.objs.size);repeat (any_goals (first|assumption|wp_step))
   refine acn (codeAny_call_builtin (R:=wants (λr s2=>r=.none/\∃h' tk,s2={ s with heap:=h',toks:=tk }/\SW P w h' s.heap.objs.size (iX [] items.toList)/\(∀b o,s.heap.get? b=some o->h'.get? b=some o)) E) F.called_set.init.plain F.entry_set_init (check_set_init_1 x ?_)) λy s2 d=>?_
   .obtain⟨B,g,i,j,p⟩:=hl;obtain⟨c1,C,c3,G⟩:=B;simp only at i p;subst i;subst p;have H:(s.heap.push so).get? l=some { cls:=.type "list",dict:=C,data:=.seq items j,slots:=G }:=aac _ g;have n1:=PySem.F.sub_list_set;have n2:=PySem.F.sub_list_frozenset;have n3:(Value.type "list" ==Value.type "dict")=false:=by decide
    have a:(s.heap.push so).IsList l items:=⟨_,H,rfl,j,rfl⟩
    subst hso;unfold Builtin.«set.__init__» noKeywords Builtin.Frozenset.updateFrom;generalize Yh:pyIter=PI
    wp_walk
    subst Yh;refine wpAny_pyIter_list (l:=l) (items:=items) ?_ ?_
    .exact a
    refine gV (wpAny_runValue ?_);have U6:l<s.heap.objs.size:=aan g;refine GB (I:=(s.heap.push _).objs.size) (l:=l) (items:=items) (by simp[hh]) (by rw[acJ];exact aaB (Nat.lt_succ_of_lt U6)) (by rw[acJ];exact aaB (abz _)) (acY U6) hb hk (items.size - 0) 0 _ rfl (aaU _)
     ⟨⟨_,aat _ rfl,rfl,rfl⟩,a.push _⟩ ?_ λh' tk q S'=>?_
    .refine⟨#[],0,.fresh 0 0 (!w.params.followText "set-order"),?_,λe J=>by simp at J,rfl,by decide,⟨rfl,List.Pairwise.nil⟩,λz=>by show(!w.params.followText "set-order")=true;rw[z];rfl,?_,?_⟩
     .exact aac _ f
     .simp[iX]
     .simp[iX]
    .show wpAny _ _ _ _ _ _;refine aaf ?_;show wpAny _ _ (ret Value.none) _ _ _;refine aaf ⟨rfl,h',tk,rfl,S',λb o e=>q b o (aaB (aan e)) ?_ (aac _ (aac _ e))⟩;rw[acJ];exact aaB (Nat.lt_succ_of_lt (aan e))
   .cases y with
    |error e=>exact d
    |ok f2=>
     cases f2 with
     |ret r=>
      obtain⟨rfl,h',tk,rfl,S',K⟩:=d;repeat (any_goals (first|assumption|wp_step))
      exact h _ _ S' K
     |_=>exact d.elim
  |_=>exact q.elim
end
def DH:entryFor table "set.__iter__" = some Builtin.«frozenset.__iter__»:=by
 refine entryFor_alias (id':="frozenset.__iter__") ?_ rfl ?_ ?_
 .kernel_rfl
 .decide +kernel
 .kernel_rfl
def ly:entryFor table "set_iterator.__next__" = some Builtin.«set_iterator.__next__»:=entryFor_of_tree (by kernel_rfl)
def fB:Slot "set_iterator" "__next__" "set_iterator.__next__" :=by
 refine .of (owner:="set_iterator") (n:="__next__") ?_ ?_ ?_ ?_ (.inl ?_) ?_
 .rw[abt,aa1];kernel_rfl
 .decide +kernel
 .decide +kernel
 .decide +kernel
 .decide +kernel
 .rw[aby];kernel_rfl
def ng (a:Value):argsOk "set_iterator.__next__" ⟨[a],[]⟩:=by unfold argsOk;kernel_rfl
def Ab{α:Type}{l:List α}{i:Nat}(h:i<l.length):(l[i] :: l.eraseIdx i).Perm l:=by
 rw[List.eraseIdx_eq_take_drop_succ];refine List.perm_middle.symm.trans ?_;rw[<-abH h,acO]
theorem Ac{α:Type}(nx:Nat->Nat):∀(f k:Nat) (l:List α) (out:Array α),f=l.length->(pickOrder.go nx f k l out).toList.Perm (out.toList++l)
 |0,k,l,out,e=>by
  have:l=[]:=List.eq_nil_of_length_eq_zero e.symm;subst this;unfold pickOrder.go;simp
 |f+1,k,l,out,e=>by
  have a:nx k % l.length<l.length:=Nat.mod_lt _ (by omega);unfold pickOrder.go;rw[QJ a];dsimp only;refine(Ac nx f (k+1) _ _ (by rw[List.length_eraseIdx_of_lt a];omega)).trans ?_;rw[Array.toList_push,aaO];exact(Ab a).append_left _
def uL{α:Type}(nx:Nat->Nat)(xs:Array α):(pickOrder nx xs).toList.Perm xs.toList:=by
 have:=Ac nx xs.size 0 xs.toList #[] (by simp);simpa[pickOrder]using this
section
variable{P:Program}{w:World}{A:Around}{E:Value->Shared->Prop}{s:Shared}
def BH{src:Source}{n:Nat}{Q:Nat->Shared->Prop}(hn:n≠0)(h:∀i d,i<n->Q i { s with drawn:=d }):wpAny (model P w) A (choose src n) Q E s:=λΓ p _=>by
 show Sem.wp _ Γ (.choose src n .pure) _ _ p s;rw[Sem.wp_choose];exact⟨hn,h _ _ (Nat.mod_lt _ (Nat.pos_of_ne_zero hn))⟩
theorem Ad{α:Type}:∀(n:Nat) (xs:List α) (s:Shared) {Q:List α->Shared->Prop},n=xs.length->(∀ys d,ys.Perm xs->Q ys { s with drawn:=d })->wpAny (model P w) A (drawOrder n xs) Q E s
 |0,xs,s,Q,e,h=>by
  have:xs=[]:=List.eq_nil_of_length_eq_zero e.symm;subst this;exact aaf (h [] s.drawn .nil)
 |n+1,[],s,Q,e,h=>by cases e
 |n+1,x :: xs,s,Q,e,h=>by
  show wpAny _ _ (choose .order (x :: xs).length >>= _) _ _ _;refine gV (BH (by simp) λi d a=>?_);rw[QJ a];dsimp only;refine gV (Ad n ((x :: xs).eraseIdx i) _ (by rw[List.length_eraseIdx_of_lt a];omega) λys b p=>?_);exact aaf (h _ b ((p.cons _).trans (Ab a)))
def SO (h:Heap) (a:Addr) (es:Array (Int×Value)) (ep:Nat) (t:SetTable):Prop:=h.get? a=some { cls:=.type "set",dict:=none,data:=.set es ep t }
def SI (h:Heap) (I a:Addr) (f:Value) (i n ep:Nat):Prop:=h.get? I=some { cls:=.type "set_iterator",dict:=none,data:=.fields #[f,.int i 0,.ref a,.int n 0,.int ep 0]}
def mD {Q:Bool->Shared->Prop}(h:Q (w.params.followText "set-order") s):wpAny (model P w) A setsByText Q E s:=gV (wpAny_askSetting (aaf h))
def uM{Q:Option Value->Shared->Prop}(hh:A.handled=none)(h:∀h',(∀b o,s.heap.get? b=some o->h'.get? b=some o)->Q none { s with heap:=h' }) :
  wpAny (model P w) A.in1 (newExc (.type "StopIteration") [] >>= λx=>(raiseNew x:Sem PySem.Fin)) (λ_ _=>False) (λe s1=>wpAny (model P w) A (do
   if <-isInstance e (.type "StopIteration")then pure none else throw e) Q E s1) s:=by
 refine gV ?_;simp only[newExc,newTuple];refine gV (aaY ?_ (by size_fits));refine gV (m:=firstArgMember _ _) (abj (a:=Value.none) (by first|rfl | (simp only[firstArgMember];rfl)) ?_);refine aaY ?_ (by size_fits);simp only[raiseNew];refine gV (wpAny_handled ?_);rw[show A.in1.handled=none from hh];refine gV (aaf (wpAny_throw ?_));refine gV (acp (T:="StopIteration") (b:=true) ⟨_,aat _ rfl,rfl⟩ isSubtype_stop ?_);exact aaf (h _ λb o e=>aac _ (aac _ e))
end
section
variable{P:Program}{w:World}{A:Around}{E:Value->Shared->Prop}{s:Shared}{I a:Addr}{es:Array (Int×Value)}{ep:Nat}{t:SetTable}
def NX(P:Program)(w:World)(a:Addr)(es:Array (Int×Value))(ep:Nat)(t:SetTable)(slot i:Nat)(r:Option (Value×Nat)):Prop:=
 ∀(A:Around) (E:Value->Shared->Prop) (s:Shared) (Q:Option (Value×Nat)->Shared->Prop),SO s.heap a es ep t->Q r s->wpAny (model P w) A (setNext a slot i ep) Q E s
def SI.ty {f:Value}{i n:Nat}(h:SI s.heap I a f i n ep):s.TypeIs (.ref I) "set_iterator" :=⟨_,h,rfl⟩
def SO.ty (h:SO s.heap a es ep t):s.TypeIs (.ref a) "set" :=⟨_,h,rfl⟩
def OC{slot i nx:Nat}{v:Value}{Q:Option Value->Shared->Prop}(hI:SI s.heap I a (.int slot 0) i es.size ep)(hS:SO s.heap a es ep t)(fit:t.fits es.size=true)(hne:a≠I)(hx:NX P w a es ep t slot i (some (v,nx)))
  (hQ:∀h',SI h' I a (.int nx 0) (i+1) es.size ep->Heap.SameBut I s.heap h'->Q (some v) { s with heap:=h' }):wpAny (model P w) A (pyNext (.ref I)) Q E s:=by
 unfold pyNext;refine gV (ace (abq (name:=Str.ofString "__next__") hI.ty fB (abm fB hI.ty ly ?_ (ng _))));refine gV (aaf ?_);refine gV (wpAny_fieldsOf hI rfl ?_);refine gV (wpAny_setEntries_of hS rfl fit ?_);rw[aaj (by simp)];refine gV (hx _ _ _ _ hS ?_);dsimp only;refine gV (acH hI rfl (by simp) ?_);have b:SI (s.heap.update I (Obj.mapFields (·.setIfInBounds 0 (rawInt nx)))) I a (.int nx 0) i es.size ep:=abe _ hI rfl;refine gV (acH b rfl (by simp) ?_);refine aaf ⟨_,rfl,aaf (hQ _ ?_ ((ab7 ..).trans (ab7 ..)))⟩;exact abe _ b rfl
def BJ{slot i:Nat}{Q:Option Value->Shared->Prop}(hh:A.handled=none)(hI:SI s.heap I a (.int slot 0) i es.size ep)(hS:SO s.heap a es ep t)(fit:t.fits es.size=true)(hx:NX P w a es ep t slot i none)
  (hQ:∀h',Heap.ExtBut I s.heap h'->Q none { s with heap:=h' }):wpAny (model P w) A (pyNext (.ref I)) Q E s:=by
 unfold pyNext;refine gV (ace (abq (name:=Str.ofString "__next__") hI.ty fB (abm fB hI.ty ly ?_ (ng _))));refine gV (aaf ?_);refine gV (wpAny_fieldsOf hI rfl ?_);refine gV (wpAny_setEntries_of hS rfl fit ?_);rw[aaj (by simp)];refine gV (hx _ _ _ _ hS ?_);dsimp only;refine gV (acH hI rfl (by simp) ?_);refine aa6 (uM (Q:=Q) (E:=E) (s:={ s with heap:=s.heap.update I (Obj.mapFields (·.setIfInBounds 2 Value.none))}) hh λh' k=>hQ h' ?_) (λ_ _ f=>f.elim) λe s1 q=>q;exact λb o c d=>k b o ((ab7 ..).extBut b o c d)
def TP (h:Heap) (T:Addr) (ps:List Nat):Prop:=h.get? T=some { cls:=.type "tuple",dict:=none,data:=.seq (ps.map λ(i:Nat)=>rawInt i).toArray }
def OD{T:Addr}{ps:List Nat}{i p:Nat}{hv:Int}{v:Value}{Q:Option Value->Shared->Prop}(hI:SI s.heap I a (.ref T) i es.size ep)(hS:SO s.heap a es ep t)(fit:t.fits es.size=true)(hT:TP s.heap T ps)(hp:ps[i]?=some p)(hx:es[p]?=some (hv,v))
  (hQ:∀h',SI h' I a (.ref T) (i+1) es.size ep->Heap.SameBut I s.heap h'->Q (some v) { s with heap:=h' }):wpAny (model P w) A (pyNext (.ref I)) Q E s:=by
 unfold pyNext;refine gV (ace (abq (name:=Str.ofString "__next__") hI.ty fB (abm fB hI.ty ly ?_ (ng _))));refine gV (aaf ?_);refine gV (wpAny_fieldsOf hI rfl ?_);refine gV (wpAny_setEntries_of hS rfl fit ?_);rw[aaj (by simp)];refine gV (wpAny_seqItems hT rfl ?_);dsimp only;have b:((ps.map λ(i:Nat)=>rawInt i).toArray)[(Int.toNat ((i:Nat):Int))]?=some (rawInt p):=by
  rw[abU,List.getElem?_toArray,aaA,hp];rfl
 rw[b];show wpAny _ _ (setNextDrawn a (Int.toNat ((p:Nat):Int)) (Int.toNat ((ep:Nat):Int)) >>= _) _ _ _;unfold setNextDrawn;refine gV (gV (wpAny_setState_of hS rfl fit ?_));dsimp only;rw[aaj (by simp),abU,hx];refine aaf ?_;refine gV (acH hI rfl (by simp) ?_);refine aaf ⟨_,rfl,aaf (hQ _ ?_ (ab7 ..))⟩;exact abe _ hI rfl
def BK{T:Addr}{ps:List Nat}{i:Nat}{Q:Option Value->Shared->Prop}(hh:A.handled=none)(hI:SI s.heap I a (.ref T) i es.size ep)(hS:SO s.heap a es ep t)(fit:t.fits es.size=true)(hT:TP s.heap T ps)(hp:ps[i]?=none)
  (hQ:∀h',Heap.ExtBut I s.heap h'->Q none { s with heap:=h' }):wpAny (model P w) A (pyNext (.ref I)) Q E s:=by
 unfold pyNext;refine gV (ace (abq (name:=Str.ofString "__next__") hI.ty fB (abm fB hI.ty ly ?_ (ng _))));refine gV (aaf ?_);refine gV (wpAny_fieldsOf hI rfl ?_);refine gV (wpAny_setEntries_of hS rfl fit ?_);rw[aaj (by simp)];refine gV (wpAny_seqItems hT rfl ?_);dsimp only;have c:((ps.map λ(i:Nat)=>rawInt i).toArray)[(Int.toNat ((i:Nat):Int))]?=none:=by
  rw[abU,List.getElem?_toArray,aaA,hp];rfl
 rw[c];dsimp only;refine gV (acH hI rfl (by simp) ?_);have d:SI (s.heap.update I (Obj.mapFields (·.setIfInBounds 0 (rawInt 0)))) I a (.int 0 0) i es.size ep:=abe _ hI rfl;refine gV (acH d rfl (by simp) ?_);refine aa6 (uM (Q:=Q) (E:=E) hh λh' k=>hQ h' ?_) (λ_ _ f=>f.elim) λe s1 q=>q;exact λb o c g=>k b o (((ab7 ..).trans (ab7 ..)).extBut b o c g)
end
def DI:entryFor table "set_iterator.__iter__" = some Builtin.«dict_keyiterator.__iter__»:=by
 refine entryFor_alias (id':="dict_keyiterator.__iter__") ?_ rfl ?_ ?_
 .kernel_rfl
 .decide +kernel
 .kernel_rfl
def wY:Slot "set_iterator" "__iter__" "set_iterator.__iter__" :=by
 refine .of (owner:="set_iterator") (n:="__iter__") ?_ ?_ ?_ ?_ (.inl ?_) ?_
 .rw[abt,aa1];kernel_rfl
 .decide +kernel
 .decide +kernel
 .decide +kernel
 .decide +kernel
 .rw[aby];kernel_rfl
def GD (a:Value):argsOk "set_iterator.__iter__" ⟨[a],[]⟩:=by unfold argsOk;kernel_rfl
section
variable{P:Program}{w:World}{A:Around}{E:Value->Shared->Prop}{s:Shared}{I a:Addr}{es:Array (Int×Value)}{ep:Nat}{t:SetTable}
def Ae{f:Value}{i n:Nat}{Q:Value->Shared->Prop}(h:SI s.heap I a f i n ep)(q:Q (.ref I) s):wpAny (model P w) A (pyIter (.ref I)) Q E s:=by
 refine wpAny_pyIter_slot h.ty wY (abm wY h.ty DI ?_ (GD _));show wpAny _ _ (ret (.ref I)) _ _ s;exact aaf ⟨_,rfl,"set_iterator",_,h.ty,fB.lookup,q⟩
noncomputable def Af(t:SetTable):Nat->Nat
 |0=>0
 |i+1=>t.place.getD i 0+1
def DJ(fit:t.fits es.size=true):t.place.size=es.size:=by
 simp only[SetTable.fits,W2,beq_iff_eq]at fit;exact fit.1
def OE (hb:w.params.followText "set-order" = false) (led:t.led=true) (tw:Tw t) (fit:t.fits es.size=true) (dr:(!t.plain&&decide (es.size > 1))=false) {i:Nat} {e:Int×Value} (hx:es[i]?=some e):NX P w a es ep t (Af t i) i (some (e.2,Af t (i+1))):=by
 intro A E s Q c q;have b:i<t.place.size:=by rw[DJ fit];exact(Array.getElem?_eq_some_iff.mp hx).1
 have OF:SetTable.below t.place (Af t i)=i:=by
  refine below_at tw.2 b ?_ λk d=>?_
  .cases i with
   |zero=>exact aaU _
   |succ i=>exact tw.2.lt (abz i) b
  .cases i with
   |zero=>omega
   |succ i=>
    show _<t.place.getD i 0+1;by_cases z:k=i
    .rw[z];omega
    .have:=tw.2.lt (show k<i by omega) (by omega);omega
 unfold setNext;refine gV (wpAny_setState_of c rfl fit ?_);dsimp only;refine gV (mD ?_);rw[hb,aaj abb];refine aaQ (λz=>absurd z (by show ¬ (!t.plain&&decide (es.size > 1))=true;rw[dr];exact abb)) λ_=>?_;refine gV ?_;show wpAny _ _ (if (!t.led&&!es.isEmpty)=true then unsupported "set:maker-not-led" else pure ()) _ _ _;rw[led];refine aaf (aaf ?_);rw[OF,hx,zZ b];exact q
def BL (hb:w.params.followText "set-order" = false) (led:t.led=true) (tw:Tw t) (fit:t.fits es.size=true) (dr:(!t.plain&&decide (es.size > 1))=false):NX P w a es ep t (Af t es.size) es.size none:=by
 intro A E s Q b q;have OF:SetTable.below t.place (Af t es.size)=es.size:=by
  rw[<-DJ fit];refine DA tw.2 λk c=>?_;cases hz:t.place.size with
  |zero=>omega
  |succ i=>
   show _<t.place.getD i 0+1;by_cases z:k=i
   .rw[z];omega
   .have:=tw.2.lt (show k<i by omega) (by omega);omega
 unfold setNext;refine gV (wpAny_setState_of b rfl fit ?_);dsimp only;refine gV (mD ?_);rw[hb,aaj abb];refine aaQ (λz=>absurd z (by show ¬ (!t.plain&&decide (es.size > 1))=true;rw[dr];exact abb)) λ_=>?_;refine gV ?_;show wpAny _ _ (if (!t.led&&!es.isEmpty)=true then unsupported "set:maker-not-led" else pure ()) _ _ _;rw[led];refine aaf (aaf ?_);rw[OF,Array.getElem?_eq_none (aae _)];exact q
def DK (hb:w.params.followText "set-order" = true) (fit:t.fits es.size=true) (i:Nat):NX P w a es ep t 0 i (((pickOrder (w.params.setOrder a ep) es)[i]?).map λe=>(e.2,0)):=by
 intro A E s Q b q;unfold setNext;refine gV (wpAny_setState_of b rfl fit ?_);dsimp only;refine gV (mD ?_);rw[hb,LV rfl,aaj (by simp)];unfold setWalk;refine gV (gV (wpAny_setState_of b rfl fit ?_));dsimp only;refine gV (mD ?_);rw[hb,LV rfl];exact gV (wpAny_askSetting (aaf (aaf q)))
def GF {Q:Value->Shared->Prop}(hS:SO s.heap a es ep t) (fit:t.fits es.size=true) (sm:es.size<scanBound) (tw:Tw t) (led:w.params.followText "set-order" = false->t.led=true)
  (h:∀(I:Addr) (h':Heap) d (vs:List Value) (St:Nat->Heap->Prop) (fp:List Addr),vs.Perm (es.toList.map (·.2))->(∀A:Around,A.handled=none->Walks P w A I fp [I] es.size (λi v=>vs[i]?=some v) St)->St 0 h'->
   (∀b o,s.heap.get? b=some o->h'.get? b=some o)->s.heap.objs.size<=I->(∀b∈fp,b=a\/s.heap.objs.size<=b)->Q (.ref I) { s with heap:=h',drawn:=d }) :
  wpAny (model P w) A (pyIter (.ref a)) Q E s:=by
 have IG:a<s.heap.objs.size:=aan hS;refine wpAny_pyIter_slot hS.ty PySem.F.slot_set_iter (abm PySem.F.slot_set_iter hS.ty DH ?_ (PySem.F.args_set_iter_1 _));unfold Builtin.«frozenset.__iter__» Builtin.Frozenset.slot0;refine gV (gV (aaf (aaf ?_)));unfold Builtin.Frozenset.sizeOf;refine gV (gV (wpAny_setEntries_of hS rfl fit (aaf ?_)));refine gV ?_;unfold setDrawn;refine gV (wpAny_setState_of hS rfl fit ?_);dsimp only;refine gV (mD (aaf ?_));have q:∀(s1:Shared) (f:Value) (St:Nat->Heap->Prop) (fp:List Addr) (vs:List Value),SO s1.heap a es ep t->s.heap.objs.size<=s1.heap.objs.size->s1.gens=s.gens->s1.toks=s.toks->s1.os=s.os->(∀b o,s.heap.get? b=some o->s1.heap.get? b=some o)->vs.Perm (es.toList.map (·.2))->
   (∀A:Around,A.handled=none->Walks P w A s1.heap.objs.size fp [s1.heap.objs.size] es.size (λi v=>vs[i]?=some v) St)->(∀b∈fp,b=a\/s.heap.objs.size<=b)->
   (∀h',SI h' s1.heap.objs.size a f 0 es.size ep->(∀b o,s1.heap.get? b=some o->h'.get? b=some o)->St 0 h')->
   wpAny (model P w) A.in1 (do ret (<-newFields "set_iterator" [f,rawInt 0,.ref a,rawInt es.size,rawInt (<-setEpoch a)])) (λx s2=>∃v,x=PySem.Fin.done (.ret v)/\∃T idx,s2.TypeIs v T/\typeLookup (.type T) (Str.ofString "__next__")=pure (some idx)/\Q v s2) E s1:=by
  intro s1 f St fp vs wU l1 l2 l3 l4 l5 pv W M N;refine gV (wpAny_setEpoch_of wU rfl fit ?_);refine gV (aaY (aaf ⟨_,rfl,"set_iterator",_,⟨_,aat _ rfl,rfl⟩,fB.lookup,?_⟩));have j:=h s1.heap.objs.size _ s1.drawn vs St fp pv W (N (s1.heap.push { cls:=.type "set_iterator",dict:=none,data:=.fields #[f,.int 0 0,.ref a,.int es.size 0,.int ep 0]}) (aat _ rfl) λb o e=>aac _ e) (λb o e=>aac _ (l5 b o e)) l1 M;obtain⟨p1,p2,p3,p4,p5⟩:=s1;simp only at l2 l3 l4;subst l2;subst l3;subst l4;exact j
 refine aaQ (λz=>?_) λz=>?_
 .have hz:es.size<=sizeLine:=fits_of_scanBound sm;refine gV (Ad _ _ _ (by simp) λps d X=>?_);have C:ps.length=es.size:=by rw[X.length_eq];simp
  refine gV (wpAny_newTuple ?_ (by rw[aaq,C];exact hz));have Y:∀p∈ps,p<es.size:=λp y=>List.mem_range.mp (X.mem_iff.mp y);generalize hto:({ cls:=.type "tuple",data:=.seq (ps.map λ(i:Nat)=>rawInt i).toArray }:Obj)=to
  refine q { s with heap:=s.heap.push to,drawn:=d } (.ref s.heap.objs.size) (λi h=>SI h (s.heap.push to).objs.size a (.ref s.heap.objs.size) i es.size ep/\SO h a es ep t/\TP h s.heap.objs.size ps) [(s.heap.push to).objs.size,a,s.heap.objs.size] (ps.map λp=>((es[p]?).map (·.2)).getD .none)
   (aac _ hS) (by rw[acJ];exact ac0 _) rfl rfl rfl (λb o e=>aac _ e) ?_ (λA1 Z=>?_) ?_ λh' x k=>⟨x,k _ _ (aac _ hS),k _ _ (by subst hto;exact aat _ rfl)⟩
  .refine(X.map _).trans (List.Perm.of_eq ?_);refine List.ext_getElem (by simp) λi h1 h2=>?_;have r:i<es.size:=by simpa using h1
   simp[ack r]
  .have l:a≠(s.heap.push to).objs.size:=by rw[acJ];exact aaB (Nat.lt_succ_of_lt IG)
   have ne2:s.heap.objs.size≠(s.heap.push to).objs.size:=by rw[acJ];exact aaB (abz _)
   exact {
    sub:=λb c=>by simp at c;simp[c]
    frame:=λi h h' g G=>⟨G _ (by simp) _ g.1,G _ (by simp) _ g.2.1,G _ (by simp) _ g.2.2⟩
    item:=λi s1 Q1 E1 r g j=>by
     have y:ps[i]?=some (ps[i]'(by rw[C];exact r)):=QJ _;have K:ps[i]'(by rw[C];exact r)<es.size:=Y _ (List.getElem_mem _);refine OD (hv:=(es[ps[i]'(by rw[C];exact r)]).1) (v:=(es[ps[i]'(by rw[C];exact r)]).2) g.1 g.2.1 fit g.2.2 y (ack K) λh' B H=>j _ h' s1.toks ?_ ⟨B,?_,?_⟩ λb o c e=>?_
     .rw[aaA,y];simp[ack K]
     .exact(H.2 _ l).trans g.2.1
     .exact(H.2 _ ne2).trans g.2.2
     .exact(H.2 _ (by simpa using c)).trans e
    done:=λs1 Q1 E1 g j=>BK Z g.1 g.2.1 fit g.2.2 (aar (by rw[C];exact aae _)) λh' B=>j h' s1.toks λb o c e=>B b o (by simpa using c) e
    self:=λi s1 Q1 E1 g j=>Ae g.1 j }
  .intro b c;simp at c;rcases c with rfl|rfl|rfl
   .exact .inr (by exact ac0 _)
   .exact .inl rfl
   .exact .inr (aae _)
 .refine gV (aaf ?_);have l:a≠s.heap.objs.size:=aaB IG;have M:∀b∈[s.heap.objs.size,a],b=a\/s.heap.objs.size<=b:=λb c=>by
   simp at c;rcases c with rfl|rfl
   .exact .inr (aae _)
   .exact .inl rfl
  have go:∀(J:Nat->Nat) (vs:List Value),J 0=0->vs.Perm (es.toList.map (·.2))->(∀i v,vs[i]?=some v->NX P w a es ep t (J i) i (some (v,J (i+1))))->NX P w a es ep t (J es.size) es.size none->wpAny (model P w) A.in1 (do ret (<-newFields "set_iterator" [rawInt 0,rawInt 0,.ref a,rawInt es.size,rawInt (<-setEpoch a)])) (λx s2=>∃v,x=PySem.Fin.done (.ret v)/\∃T idx,s2.TypeIs v T/\typeLookup (.type T) (Str.ofString "__next__")=pure (some idx)/\Q v s2) E s:=by
   intro J vs e0 pv hx L;have vl:vs.length=es.size:=by rw[pv.length_eq];simp
   refine q s (rawInt 0) (λi h=>SI h s.heap.objs.size a (.int (J i) 0) i es.size ep/\SO h a es ep t) [s.heap.objs.size,a] vs hS (aae _) rfl rfl rfl (λb o e=>e) pv (λA1 Z=>?_) M λh' x k=>⟨by rw[e0];exact x,k _ _ hS⟩
   exact {
    sub:=λb c=>by simp at c;simp[c]
    frame:=λi h h' g G=>⟨G _ (by simp) _ g.1,G _ (by simp) _ g.2⟩
    item:=λi s1 Q1 E1 r g j=>by
     have y:vs[i]?=some (vs[i]'(by rw[vl];exact r)):=QJ _;refine OC g.1 g.2 fit l (hx i _ y) λh' B H=>j _ h' s1.toks y ⟨B,?_⟩ λb o c e=>?_
     .exact(H.2 _ l).trans g.2
     .exact(H.2 _ (by simpa using c)).trans e
    done:=λs1 Q1 E1 g j=>BJ Z g.1 g.2 fit L λh' B=>j h' s1.toks λb o c e=>B b o (by simpa using c) e
    self:=λi s1 Q1 E1 g j=>Ae g.1 j }
  cases c:w.params.followText "set-order" with
  |true=>
   refine go (λ_=>0) ((pickOrder (w.params.setOrder a ep) es).toList.map (·.2)) rfl ((uL _ _).map _) (λi v e=>?_) ?_
   .rw[aaA,Array.getElem?_toList]at e;obtain⟨x,x1,x2⟩:=Option.map_eq_some_iff.mp e;have:=DK (P:=P) (a:=a) (ep:=ep) c fit i;rw[x1]at this;subst x2;exact this
   .have:=DK (P:=P) (a:=a) (ep:=ep) c fit es.size;rw[Array.getElem?_eq_none (by rw[<-abE,(uL _ _).length_eq];simp)]at this;exact this
  |false=>
   have dr:(!t.plain&&decide (es.size > 1))=false:=by
    rw[c]at z;cases hd:(!t.plain&&decide (es.size > 1))with
    |false=>rfl
    |true=>exact absurd hd z
   refine go (Af t) (es.toList.map (·.2)) rfl .rfl (λi v e=>?_) (BL c (led c) tw fit dr);rw[aaA,Array.getElem?_toList]at e;obtain⟨x,x1,x2⟩:=Option.map_eq_some_iff.mp e;subst x2;exact OE c (led c) tw fit dr x1
end
end Sm
namespace Sm
open PySem PySem.Spec PyProof.Rows L2 PySem.SeqAt
open Ev (D O Hh Fr R aS E Es Eo T S Ss Fl Src bV bR TY BI ME)
section
variable{P:Program}{w:World}{A:Around}{E:Value->Shared->Prop}{s:Shared}
def GG {r:Addr}{Q:Bool->Shared->Prop}(hT:s.TypeIs (.ref r) "set") (h:Q false s):wpAny (model P w) A (Builtin.List.listLengthHint (.ref r)) Q E s:=by
 unfold Builtin.List.listLengthHint;refine gV (abF hT PySem.F.slot_set_len.lookup ?_);generalize hid:("set.__len__" : String)=i0
 wp_delta
 rw[show splitId i0=some ("set","__len__")from by subst hid;decide +kernel];subst hid;refine gV (acp (T:="set") (b:=true) hT sub_set_self ?_);refine aaQ (λz=>absurd z (by decide)) λ_=>?_;refine aaQ (λ_=>?_) λz=>absurd (by decide +kernel) z;exact gV (acm hT (aaf h))
def zk{a:Addr}{ks:List Key}{R:List Value->Shared->Prop}(hh:A.handled=none)(S:SW P w s.heap a ks)
  (h:∀(h':Heap) (tk:Nat) d (vs:List Value),(∀b o,s.heap.get? b=some o->h'.get? b=some o)->(vs.map eG).Perm ks->(∀v∈vs,Ky v)->R vs { s with heap:=h',toks:=tk,drawn:=d }) :
  wpAny (model P w) A (collect (.ref a)) R E s:=by
 obtain⟨x,ep,t,Z,el,fit,sm,tw,M,pm,nd⟩:=S;have hn:x.size<=sizeLine:=fits_of_scanBound sm;have IG:a<s.heap.objs.size:=aan Z;unfold collect;refine gV (wpAny_runValue (codeAny_builtin entry_proto_collect' ?_));rw[Around.under_plainId PySem.F.plain_proto_collect _];refine gV (aaY ?_);refine aaf ⟨plainId_quiet PySem.F.plain_list_iadd _,codeAny_builtin entry_list_iadd' ?_⟩;rw[Around.under_plainId PySem.F.plain_list_iadd _];show wpAny _ A.in1 (Builtin.List.listExtendWith (.ref s.heap.objs.size) (.ref a) (.ref s.heap.objs.size)) _ _ _;generalize hlo:({ cls:=.type "list",data:=.seq ([]:List Value).toArray }:Obj)=lo
 have hL:(s.heap.push lo).get? s.heap.objs.size=some { cls:=.type "list",data:=.seq #[]}:=by subst hlo;exact aat _ rfl
 have N:SO (s.heap.push lo) a x ep t:=aac _ Z;have U7:s.heap.objs.size≠a:=acY IG;unfold Builtin.List.listExtendWith;refine gV (acm (T:="set") (SO.ty (s:={ s with heap:=s.heap.push lo }) N) ?_);have e1:Builtin.List.listSameRef (.ref s.heap.objs.size) (.ref a)=false:=by simp[Builtin.List.listSameRef,U7]
 have e2:(Value.type "set" ==Value.type "list")=false:=by decide
 have e3:(Value.type "set" ==Value.type "tuple")=false:=by decide
 simp only[e1,e2,e3,Bool.or_false,aay,aaZ];refine gV (GF (s:={ s with heap:=s.heap.push lo }) N fit sm tw M λI h1 d vs St fp pv W st Q lI hf=>?_);have OG:=Q _ _ hL;have y:s.heap.objs.size∉fp:=λq=>by
  rcases hf _ q with z|z
  .exact U7 z
  .rw[show(({ s with heap:=s.heap.push lo }:Shared).heap.objs.size)=s.heap.objs.size+1 from acJ _ _]at z;exact absurd z (Nat.not_succ_le_self _)
 refine gV (wpAny_holding (GG (SO.ty (s:={ s with heap:=h1,drawn:=d }) (Q _ _ N)) ?_));have fin:∀(B:Heap) (tk c:Nat),St 0 B->(∀b o,b≠s.heap.objs.size->h1.get? b=some o->B.get? b=some o)->B.get? s.heap.objs.size=some { cls:=.type "list",data:=.seq #[] c }->
   codeAny (model P w) A (.builtin "list.extend.loop" ⟨[.ref s.heap.objs.size,.ref I,.ref s.heap.objs.size],[]⟩) (λq p=>∃h' tk f l,q=.ok (.ret (.ref s.heap.objs.size))/\p={ s with heap:=h',toks:=tk,drawn:=d }/\(∀b o,s.heap.get? b=some o->h'.get? b=some o)/\h'.get? s.heap.objs.size=some { cls:=.type "list",dict:=none,data:=.seq f l,slots:=#[]}/\f.toList=vs) { s with heap:=B,toks:=tk,drawn:=d }:=by
  intro B tk c X k2 IF;refine codeAny_extend_loopS (W A.in1 (by simpa using hh)).toS hn _ y _ x.size 0 _ #[] c rfl (aaU _) X IF (ItemsOf.nil _) λp f l hm Y j=>?_;have z:=Moved.eq_with hm;rw[z];refine⟨p.heap,p.toks,f,l,rfl,rfl,λb o e=>?_,Y,?_⟩
  .have J:=aan e;refine hm.heap b o (λq=>?_) (k2 b o (aaB J) (Q b o (aac _ e)));rcases List.mem_cons.mp q with z|z
   .exact aaB J z
   .rw[List.mem_singleton.mp z]at J;have:s.heap.objs.size+1<=I:=by rw[<-acJ s.heap lo];exact lI
    exact absurd (aaa J (ac0 _)) (Nat.not_lt.mpr this)
  .refine abh λi=>?_;have vl:vs.length=x.size:=by rw[pv.length_eq];simp
   by_cases hi:i<x.size
   .obtain⟨v,K⟩:∃v,f[i]?=some v:=⟨f[i]'(by rw[j.1];exact hi),ack _⟩
    rw[Array.getElem?_toList,K];exact(j.2 i v K).symm
   .rw[aar (by rw[abE,j.1];omega),aar (by omega)]
 have done:∀(h':Heap) (g:Nat) (f:Array Value) (l:Nat),(∀b o,s.heap.get? b=some o->h'.get? b=some o)->h'.get? s.heap.objs.size=some { cls:=.type "list",dict:=none,data:=.seq f l,slots:=#[]}->f.toList=vs->
   wpAny (model P w) A (load s.heap.objs.size >>= λo=>match o.data with|.seq xs _=>pure xs.toList|_=>unsupported "internal:collect") R E { s with heap:=h',toks:=g,drawn:=d }:=by
  intro h' g f l C G H;refine gV (wpAny_load G (aaf ?_));rw[H];refine h h' g d vs C ?_ λv K=>?_
  .refine(pv.map eG).trans ?_;rw[ab0];exact pm
  .obtain⟨e,he,rfl⟩:=List.mem_map.mp (pv.mem_iff.mp K);exact(el e he).2
 refine aaQ (λ_=>?_) λ_=>?_
 .refine gV (acR (gV ?_));show wpAny _ _ (updateSeq s.heap.objs.size (·.push .none) >>= λ_=>updateSeq s.heap.objs.size (·.pop)) _ _ _;refine gV (acA OG rfl ?_);have u1:=abe (Obj.mapSeq (·.push Value.none)) OG rfl;refine acA (hz:=by seq_fits) u1 rfl ?_;have u2:=abe (Obj.mapSeq (·.pop)) u1 rfl;refine aaf ⟨plainId_quiet PySem.F.plain_extend_loop _,acn (fin _ s.toks _ ?_ (λb o L e=>?_) u2) λr p q=>?_⟩
  .refine(W A.in1 (by simpa using hh)).frame 0 _ _ st λb L o e=>?_;have U8:b≠s.heap.objs.size:=λz=>y (z▸L);exact(abw _ _ (abk U8)).trans ((abw _ _ (abk U8)).trans e)
  .exact(abw _ _ (abk L)).trans ((abw _ _ (abk L)).trans e)
  .obtain⟨h',g,f,l,rfl,rfl,C,G,H⟩:=q;exact done h' g f l C G H
 .refine aaf ⟨plainId_quiet PySem.F.plain_extend_loop _,acn (fin _ s.toks 0 st (λb o _ e=>e) OG) λr p q=>?_⟩;obtain⟨h',g,f,l,rfl,rfl,C,G,H⟩:=q;exact done h' g f l C G H
end
def DL{X:Cx}{pins:List (Addr×Obj)}{σ:L2.St}{H:Hp}{s:Shared}{d:Drawn}(I:Inv X pins σ H s):Inv X pins σ H { s with drawn:=d }:=
 ⟨I.ok,I.os,I.bare,I.base,I.loc,I.cell,I.free,I.iQ,I.pin,I.hok,I.len⟩
section
variable{P:Program}{w:World}{A:Around}{E:Value->Shared->Prop}{s:Shared}
def zm{a:Addr}{ks:List Key}{ns:List Str}{Q:Value->Shared->Prop}(S:SW P w s.heap a ks)(hh:A.handled=none)(hk:ks=ns.map Sum.inr)(h64:ns.length<64)
  (h:∀(h1 h2:Heap) (tk:Nat) d (out:Array Value) (ns':List Str) (e:Nat),(∀b o,s.heap.get? b=some o->h1.get? b=some o)->(∀b o,h1.get? b=some o->h2.get? b=some o)->h2.get? h1.objs.size=some (seqObj "list" out e)->StrsAre out.toList ns'->ns'.Perm ns->sortedS ns'=true->Q (.ref h1.objs.size) { s with heap:=h2,toks:=tk,drawn:=d }) :
  wpAny (model P w) A (call (.builtin "sorted") [.ref a]) Q E s:=by
 refine Calls.call_function_entry kind_sorted plain_sorted entry_sorted (args_sorted1 _) ?_;unfold Builtin.«sorted»;refine gV (m:=checkCount "sorted" 1 1 _) (aaf ?_);refine gV (zk (A:=A.in1) hh S λl tk d c k f I=>?_);have F:c.length=ns.length:=by
  have:=f.length_eq;rw[hk]at this;simpa using this
 have p:c.length<=sizeLine:=aas (acZ (by rw[F];exact h64)) (by decide);refine gV (wpAny_newList ?_ p);obtain⟨is,hI,hp⟩:∃is:List Str,StrsAre c is/\is.Perm ns:=by
  have:∀c:List Value,(∀v∈c,Ky v)->(∀k∈c.map eG,∃i:Str,k=Sum.inr i)->∃is:List Str,StrsAre c is/\c.map eG=is.map Sum.inr:=by
   intro c;induction c with
   |nil=>intro _ _;exact⟨[],.nil,rfl⟩
   |cons v c J=>
    intro g j;obtain⟨is,q,r⟩:=J (λv K=>g v (by simp[K])) (λk hk=>j k (by simp at hk ⊢;exact .inr hk));have:=g v (by simp);cases this with
    |s x t=>exact⟨x :: is,.cons x t q,by simp[eG,r]⟩
    |i n t=>
     obtain⟨i,z⟩:=j (.inl n) (by simp[eG]);cases z
  obtain⟨is,q,r⟩:=this c I λk y=>by
   have:=f.mem_iff.mp y;rw[hk]at this;obtain⟨i,_,rfl⟩:=List.mem_map.mp this;exact⟨i,rfl⟩
  refine⟨is,q,?_⟩;rw[r,hk]at f;have:=f.filterMap (λk:Key=>match k with|.inr i=>some i|.inl _=>none);have L:((λk:Key=>match k with|.inr i=>some i|.inl _=>none) ∘ (Sum.inr:Str->Key))=some:=rfl;rw[List.filterMap_map,List.filterMap_map,L,List.filterMap_some,List.filterMap_some]at this;exact this
 have B:(l.push (seqObj "list" c.toArray 0)).get? l.objs.size=some (seqObj "list" c.toArray 0):=aat _ rfl;refine gV (wpAny_holding (abm slot_list_sort ⟨_,B,rfl⟩ entry_list_sort (list_sort_treeK strKind_oneLt B hI.keysOf (λX Y rest e=>keyKind_strs (by rw[<-e];exact hI)) (by rw[F];exact h64) λC g j=>⟨_,rfl,?_⟩) (args_list_sort _)));obtain⟨ns',G,M,N⟩:=sorted_out_str hI g j;generalize ((arrOf C).map (·.2))=out at G ⊢
 obtain⟨e,W⟩:=sortedHeap_at (out:=out) B;exact aaf ⟨_,rfl,h l _ tk d out ns' e k (λb o H=>by
  have lt:=aan H;rw[sortedHeap_old (aaB lt) (by rw[size_push'];exact Nat.lt_succ_of_lt lt),Heap.get?_push_ne _ _ _ (aaB lt)];exact H) W G (M.trans hp) N⟩
end
noncomputable def qT(a:List Str)(k:Str):List Str:=open Classical in if k∈a then a else a++[k]
theorem uN:∀{vs:List Value}{is:List Str}(ns:List Str),StrsAre vs is->iX (ns.map Sum.inr) vs=(is.foldl qT ns).map Sum.inr
 |_,_,ns,.nil=>rfl
 |_,_,ns,.cons n t h=>by
  have e:gu (ns.map Sum.inr) (eG (.str n t))=(qT ns n).map Sum.inr:=by
   show gu (ns.map Sum.inr) (Sum.inr n)=_;unfold gu qT;by_cases q:n∈ns
   .rw[LV (List.mem_map.mpr ⟨n,q,rfl⟩),LV q]
   .rw[aaj (λz=>by obtain⟨x,a,b⟩:=List.mem_map.mp z;cases b;exact q a),aaj q,aao];rfl
  show iX (gu (ns.map Sum.inr) (eG (.str n t))) _=_;rw[e,uN _ h];rfl
theorem Ag:∀{vs:List Value}{is:List Str},StrsAre vs is->∀v∈vs,Ky v
 |_,_,.nil,v,h=>by cases h
 |_,_,.cons n t h,v,a=>by
  rcases List.mem_cons.mp a with rfl|a
  .exact .s n t
  .exact Ag h v a
theorem DM{α:Type}[DecidableEq α]{x:α}:∀{l a:List α},x∈l.foldl (λa k=>if k∈a then a else a++[k]) a->x∈a\/x∈l
 |[],a,h=>.inl h
 |y :: l,a,h=>by
  rw[aaL]at h;rcases DM h with q|q
  .split at q
   .exact .inl q
   .rcases List.mem_append.mp q with q|q
    .exact .inl q
    .rw[List.mem_singleton.mp q];exact .inr (by simp)
  .exact .inr (by simp[q])
theorem DN(inst:∀(a:List (List Nat)) (k:List Nat),Decidable (k∈a)):∀(ss a:List (List Nat)),(ss.map aO).foldl qT (a.map aO)=(ss.foldl (λa k=>@ite _ (k∈a) (inst a k) a (a++[k])) a).map aO
 |[],a=>rfl
 |s :: ss,a=>by
  have e:qT (a.map aO) (aO s)=(@ite _ (s∈a) (inst a s) a (a++[s])).map aO:=by
   unfold qT;by_cases q:s∈a
   .rw[LV (List.mem_map.mpr ⟨s,q,rfl⟩),LV q]
   .rw[aaj (λz=>by obtain⟨x,b,c⟩:=List.mem_map.mp z;exact q (by rw[<-iI c];exact b)),aaj q,aao];rfl
  rw[aai,aaL,aaL,e];exact DN inst ss _
section
variable{X:Cx}{G:Tb}{n:Nat}{sc:Scope}{N:List Str}{df:Bool}{m:List Nat}{a:E}{xa:Expr}{pos:Pos}
def GH {p p2 pos2:Pos}(ha:JE G n sc N df m a xa) (h1:autoParam (("sorted" : Str)∈G.bl) zi._auto_1) (rT:autoParam (sc.names.lookup ("sorted" : Str)=some .globalImplicit) zb._auto_1)
  (hg:autoParam (sc.names.lookup ("set" : Str)=some .globalImplicit) zb._auto_1) (hb:autoParam (("set" : Str)∈G.bl) zi._auto_1)
  (hst:autoParam (∀env:Env,starEach [xa] env=[(false,eval xa env)]) zf._auto_1)
  (wR:autoParam (∀env:Env,starEach [Expr.Call (.Name "set" p2) [xa] [] pos2] env=[(false,eval (Expr.Call (.Name "set" p2) [xa] [] pos2) env)]) zf._auto_1) :
  JE G n sc N df m (.bi .kU (.cons a .nil)) (.Call (.Name "sorted" p) [.Call (.Name "set" p2) [xa] [] pos2] [] pos):=λX g=>by
 intro b s σ H Q I q;obtain⟨r,fr,h,d,h',sr,hr,e,q⟩:=q;rw[Ev.ev]at e;obtain⟨ds,W,Y,e⟩:=Ev.ai e;refine abu (kj I (g.gl rT) (g.bl _ h1) (show bootBuiltins ("sorted" : Str)=some (.builtin "sorted")by decide +kernel) ?_ (by decide) (by decide));refine PyProof.Rows.callWith_builtin1 ?_ (wR _) rfl;rw[wR];show wpAny _ _ (spliced ((false,eval (Expr.Call (.Name "set" p2) [xa] [] pos2) X.env) :: backTo pos [])) _ _ s;refine Calls.spliced_cons ?_;have Og:PA X [xa] _:=j7 (ha X g) mj (by rw[hst];rfl);rw[Ev.bL]at Y;obtain⟨x,h4,e3,Z⟩:=Ev.ai Y;rw[Ev.bL]at Z;cases Z;refine Call_ (kj I (g.gl hg) (g.bl _ hb) (show bootBuiltins ("set" : Str)=some (.type "set")by decide +kernel) (abc (bQ (Og pos2 b s σ H (λvs H1=>∃f u,vs=[u]/\RV X.K H1 f x u/\HR X.K H1 f W/\Fm X.K r f H H1) I ⟨r,fr,h,x,W,sr,hr,e3,λu H1 f B c f1=>⟨f,u,rfl,B,c,f1⟩⟩) λus s1 z=>?_) (hst _) rfl));obtain⟨vs,H1,I1,rv,f,u,rfl,B,c,f1⟩:=z;have hx:∃i,x=.ref i:=by
  cases x<;>first|exact⟨_,rfl⟩ | (exfalso;delta Ev.cY at e;dsimp only at e;cases e)
 obtain⟨i,rfl⟩:=hx
 delta Ev.cY at e;dsimp only at e
 split at e
 case h_2=>cases e
 rename_i j e1;split at e
 case isFalse=>cases e
 rename_i C;obtain⟨ds,e5,e6⟩:=Option.bind_eq_some_iff.mp e1;obtain⟨t,rfl,z⟩:=B.shape;obtain⟨t',ws,z',q1,w⟩:=c.read e5;rw[z]at z';cases z';cases rv with
 |cons ra rb=>
 cases rb;cases ra;obtain⟨y,pv,pl,hz⟩:=I1.list q1;obtain⟨F,J⟩:=pT e6 w pv;have A:y.toArray.size+1<scanBound:=by
  have:=F.length;rw[aaq]at this;rw[Xm];unfold scanBound;omega
 refine GC (I1.ok.hd g.calm) pl.isList (by simpa using Ag F) A λh5 U9 S5 k5=>?_;refine Calls.spliced_nil ?_;have I2:Inv X b σ H1 { s1 with heap:=h5,toks:=U9 }:=I1.kept k5;have hk:iX [] y.toArray.toList=((Ev.dd j).map aO).map Sum.inr:=by
  have h0:=uN [] F;rw[show(j.map aO).foldl qT []=(Ev.dd j).map aO from DN _ j []]at h0;simpa using h0
 refine zm (s:={ s1 with heap:=h5,toks:=U9 }) S5 (I1.ok.hd g.calm) hk (by rw[aaq];exact C.2) λh6 h7 tk d' out ns' e7 c1 c2 c3 a1 a2 a3=>?_;have hq:=oR a2 a3;subst hq;have L:∀l∈Ev.br (Ev.dd j),l.length<=sizeLine:=λl M=>J l (DM (a:=[]) ((iW _).mem_iff.mp M) |>.resolve_left (by simp));obtain⟨P,q2⟩:=(q.later f1).lst e (aH.ofStrs L) c;have I6:Inv X b σ H1 { s1 with heap:=h6,toks:=tk,drawn:=d' }:=DL (I2.kept (t':=tk) c1);refine⟨.ref h6.objs.size,_,I6.laid (t':=tk) (o:=.lst ((Ev.br (Ev.dd j)).map λl=>V.str (aO l))) c2 (aae _) ?_,rfl,q2 _ (I6.hok.fresh (aae _))⟩;exact⟨P,out.toList,e7,kY a1,by simpa[seqObj]using c3⟩
end
def DO(ps:List (List Nat×Int))(k:List Nat):iS (b9 ps) (Sum.inr (aO k):Key)=(Ev.cV ps k).map V.int:=by
 induction ps with
 |nil=>rfl
 |cons p ps a=>
  by_cases h:p.1=k
  .rw[b9,aai,mZ (by rw[h])];simp[Ev.cV,h]
  .rw[b9,aai,m5 (λz=>h (iI (Sum.inr.inj z)))];simp only[Ev.cV,aaj h];exact a
def DP(ps:List (List Nat×Int))(k:List Nat)(v:Int):putK (b9 ps) (Sum.inr (aO k):Key) (V.int v)=b9 (Ev.fJ ps k v):=by
 have a:((b9 ps).any λb=>decide (b.1=(Sum.inr (aO k):Key)))=(ps.any λp=>decide (p.1=k)):=by
  unfold b9;rw[List.any_map];congr 1;funext p;by_cases h:p.1=k
  .simp[h]
  .simp only[Function.comp,aav h];exact aav λz=>h (iI (Sum.inr.inj z))
 unfold putK Ev.fJ;rw[a];split
 .unfold b9;rw[ab0,ab0];refine List.map_congr_left λp _=>?_;by_cases h:p.1=k
  .simp[h]
  .simp only[Function.comp,aaj h];rw[aaj λz=>h (iI (Sum.inr.inj z))]
 .unfold b9;rw[aao];rfl
def Ah{ps:List (List Nat×Int)}{k:List Nat}{v:Int}{p:List Nat×Int}(h:p∈Ev.fJ ps k v):(∃q∈ps,q.1=p.1)\/p.1=k:=by
 unfold Ev.fJ at h;split at h
 .obtain⟨q,a,rfl⟩:=List.mem_map.mp h;refine .inl ⟨q,a,?_⟩;split<;>rfl
 .rcases List.mem_append.mp h with h|h
  .exact .inl ⟨p,h,rfl⟩
  .rw[aaT]at h;subst h;exact .inr rfl
theorem wZ:∀{es:List D}{ps:List (List Nat×Int)},Ev.gr es=some ps->es=ps.map Ev.g8
 |[],ps,e=>by cases e;rfl
 |d :: es,ps,e=>by
  unfold Ev.gr at e;split at e
  .rename_i z;cases z
  .rename_i k v ds z;cases z;obtain⟨r,a,rfl⟩:=Option.map_eq_some_iff.mp e;rw[wZ a];rfl
  .cases e
theorem oV:∀ps:List (List Nat×Int),Ev.gr (ps.map Ev.g8)=some ps
 |[]=>rfl
 |p :: ps=>by simp only[aai,Ev.g8,Ev.gr,oV ps];rfl
section
variable{K:PySem.W.Frag}{H:Hp}{r:List Addr}{h:Hh}
def HR.oc{n:Nat}{c:Ev.Cl}{ds:List D}(hr:HR K H r h)(e:h[n]?=some (.obj c ds)):∃a,uu H r n ds a:=hr.ox.ob n c ds e
def uu.rd{n:Nat}{ds es:List D}{a:Addr}{ps:List (List Nat×Int)}(q:uu H r n ds a)(e:ds=[.tup es])(z:Ev.qK es=some ps):Rd H a (.dK (b9 ps))/\∀p∈ps,p.1.length<=sizeLine:=by
 obtain⟨b,f,⟨c,d⟩|⟨c,o,d⟩⟩:=q.dc
 .rw[c]at e;cases e;have:Ev.qK (b.map Ev.g8)=some b:=by
   have:=oV b;cases b with
   |nil=>exact this
   |cons p b=>exact this
  rw[this]at z;cases z;exact⟨.inl d,f⟩
 .rw[c]at e;cases e;have:Ev.qK (.aD :: b.map Ev.g8)=some b:=oV b;rw[this]at z;cases z;exact⟨.inr ⟨o,d⟩,f⟩
def uu.mu{n:Nat}{ds es:List D}{a:Addr}{ps:List (List Nat×Int)}(q:uu H r n ds a)(e:ds=[.tup es])(z:Ev.gr es=some ps):H a=some (.dK (b9 ps))/\∀p∈ps,p.1.length<=sizeLine:=by
 obtain⟨f,d,⟨b,c⟩|⟨b,o,c⟩⟩:=q.dc
 .rw[b]at e;cases e;rw[oV]at z;cases z;exact⟨c,d⟩
 .rw[b]at e;cases e;cases z
def Fm.w9{a:Addr}{vs:List (Key×V)}{y:HO}(ha:H a=some (.dK vs))(hm:a∈r):Fm K r r H (upd H a y) where
 pre:=λn b e=>e
 new:=λb e=>.inl e
 keep:=λb c e n=>by rw[aJ (λz=>n (by rw[z];exact hm))];exact e
 tups:=λb d e=>by
  rcases e with (e|⟨c,e⟩)|e
  .exact .inl (.inl (by rw[aJ (gh e ha (by intro z;cases z))];exact e))
  .exact .inl (.inr ⟨c,by rw[aJ (gh e ha (by intro z;cases z))];exact e⟩)
  .exact .inr e
 fin:=λb o u e=>by rw[aJ (gh e ha (by intro z;cases z))];exact e
theorem HR.w9{n:Nat}{a:Addr}{c:Ev.Cl}{ds es:List D}{ps:List (List Nat×Int)}{y:HO}(hr:HR K H r h)(hn:h[n]?=some (.obj c ds))(mz:r[n]?=some a)(ha:H a=some (.dK (b9 ps)))
  (q:∃qs:List (List Nat×Int),(∀p∈qs,p.1.length<=sizeLine)/\((es=[.tup (qs.map Ev.g8)]/\y=.dK (b9 qs))\/(es=[.tup (.aD :: qs.map Ev.g8)]/\∃o,y=.bK o (.dK (b9 qs))))):HR K (upd H a y) r (h.set n (.obj c es)) where
 len:=by simp[hr.len]
 ob:=λm ob e=>by
  have f:=Fm.w9 (K:=K) (y:=y) ha (aag mz);by_cases g:m=n
  .subst g;rw[aad (List.getElem?_eq_some_iff.mp hn).1]at e;cases e;exact⟨a,mz,trivial⟩
  .rw[Uk (λz=>g z.symm)]at e;obtain⟨b,M,z⟩:=hr.ob m ob e;exact⟨b,M,z.mono f (λ_ us _ d=>by rw[aJ (gh d ha (by intro z;cases z))];exact d) (λXC us d=>by rw[aJ (gh d ha (by intro z;cases z))];exact d)
    (λkvs B d l=>by rw[aJ (λz=>by subst z;rw[ha]at d;cases kvs with|nil=>exact l rfl|cons p kvs=>cases ps with|nil=>simp[b9,jP]at d|cons q ps=>simp[b9,jP,dv]at d;split at d<;>simp at d)];exact d)⟩
 inj:=λk m b x y M e2 e3 e4=>by
  have back:∀(j:Nat) z,(h.set n (O.obj c es))[j]?=some (.lst z)->h[j]?=some (.lst z):=λj z w=>by
   by_cases A:j=n
   .subst A;rw[aad (List.getElem?_eq_some_iff.mp hn).1]at w;cases w
   .rw[Uk (λz=>A z.symm)]at w;exact w
  exact hr.inj k m b x y M e2 (back k x e3) (back m y e4)
 ox:=by
  have L:=(List.getElem?_eq_some_iff.mp hn).1;have f:=Fm.w9 (K:=K) (y:=y) ha (aag mz);have F:∀(j:Nat) x,(h.set n (O.obj c es))[j]?=some x->j≠n->h[j]?=some x:=λj x w A=>by rw[Uk (λz=>A z.symm)]at w;exact w
  refine⟨rfl,λm c' G e=>?_,λm i k e=>?_,λm C b i k o N d B l z5=>?_,λm C b c1 d1 c2 d2 N d B l=>?_⟩
  .by_cases g:m=n
   .subst g;rw[aad L]at e;cases e;obtain⟨qs,P,Q⟩:=q;exact⟨a,mz,qs,P,Q.imp (λw=>⟨w.1,by rw[dZ,w.2]⟩) λw=>⟨w.1,let ⟨o,I⟩:=w.2;⟨o,by rw[dZ,I]⟩⟩⟩
   .have e0:=F m _ e g;obtain⟨b,w⟩:=hr.ox.ob m c' G e0;have J:b≠a:=λz=>g (hr.ox.jo m n a c' G c ds (by rw[<-z];exact w.at_) mz e0 hn);obtain⟨qs,P,Q⟩:=w.dc;exact⟨b,w.at_,qs,P,Q.imp (λw=>⟨w.1,by rw[aJ J];exact w.2⟩) λw=>⟨w.1,let ⟨o,I⟩:=w.2;⟨o,by rw[aJ J];exact I⟩⟩⟩
  .have g:m≠n:=λz=>by subst z;rw[aad L]at e;cases e
   obtain⟨b,o,w1,I,w3⟩:=hr.ox.pv m i k (F m _ e g);by_cases J:b=a
   .subst J;exact⟨b,_,w1,dZ,trivial⟩
   .exact⟨b,o,w1,by rw[aJ J];exact I,w3⟩
  .have g:m≠n:=λz=>by subst z;rw[aad L]at B;cases B
   have X:C≠n:=λz=>by subst z;rw[aad L]at l;cases l;cases z5
   exact hr.ox.jp m C b i k o N d (F m _ B g) (F C _ l X) z5
  .have bk:∀(j:Nat) c0 d0,(h.set n (O.obj c es))[j]?=some (.obj c0 d0)->∃Y Z,h[j]?=some (.obj Y Z):=λj c0 d0 w=>by
    by_cases A:j=n
    .subst A;exact⟨_,_,hn⟩
    .exact⟨_,_,F j _ w A⟩
   obtain⟨Y,Z,y3⟩:=bk m c1 d1 B;obtain⟨c4,d4,y4⟩:=bk C c2 d2 l;exact hr.ox.jo m C b Y Z c4 d4 N d y3 y4
def HR.mw{p:Addr}{ps:List (List Nat×Int)}(hr:HR K H r h)(hp:H p=none)(hl:∀q∈ps,q.1.length<=sizeLine):HR K (upd H p (.dK (b9 ps))) (r++[p]) (h++[.obj Ev.cD [.tup (ps.map Ev.g8)]]) where
 len:=by simp[hr.len]
 ob:=λn ob e=>by
  by_cases l:n<h.length
  .rw[yy l]at e;obtain⟨a,d,z⟩:=hr.ob n ob e;exact⟨a,(Fm.laid (K:=K) (o:=.dK (b9 ps)) hp).pre n a d,z.mono (Fm.laid hp) (λ_ vs _ z=>by rw[aJ (bh z hp)];exact z) (λ_ _ z=>by rw[aJ (bh z hp)];exact z)
    (λ_ _ z _=>by rw[aJ (bh z hp)];exact z)⟩
  .have A:=(List.getElem?_eq_some_iff.mp e).1;simp only[aam,aaH]at A;have B:n=h.length:=by omega
   subst B;simp at e;subst e;exact⟨p,by rw[<-hr.len];simp,trivial⟩
 inj:=λn m a x y d A B e4=>by
  have out:∀(k:Nat) z,(h++[O.obj Ev.cD [.tup (ps.map Ev.g8)]])[k]?=some (.lst z)->(r++[p])[k]?=some a->r[k]?=some a/\h[k]?=some (.lst z):=λk z C L=>by
   by_cases hk:k<h.length
   .rw[yy hk]at C;rw[yy (by rw[hr.len];exact hk)]at L;exact⟨L,C⟩
   .have e5:=(List.getElem?_eq_some_iff.mp C).1;simp only[aam,aaH]at e5;have e6:k=h.length:=by omega
    subst e6;simp at C
  exact hr.inj n m a x y (out n x B d).1 (out m y e4 A).1 (out n x B d).2 (out m y e4 A).2
 ox:=by
  have f:∀(n:Nat) x,(h++[O.obj Ev.cD [.tup (ps.map Ev.g8)]])[n]?=some x->(h[n]?=some x/\n<h.length)\/(n=h.length/\x=.obj Ev.cD [.tup (ps.map Ev.g8)]):=λn x e=>by
   by_cases l:n<h.length
   .rw[yy l]at e;exact .inl ⟨e,l⟩
   .have A:=(List.getElem?_eq_some_iff.mp e).1;simp only[aam,aaH]at A;have B:n=h.length:=by omega
    subst B;simp at e;exact .inr ⟨rfl,e.symm⟩
  have ro:∀(n:Nat) b,n<h.length->(r++[p])[n]?=some b->r[n]?=some b:=λn b l e=>by rw[yy (by rw[hr.len];exact l)]at e;exact e
  have rn:∀(n:Nat) b,r[n]?=some b->(r++[p])[n]?=some b:=(Fm.laid (K:=K) (o:=.dK (b9 ps)) hp).pre;have P:(r++[p])[h.length]?=some p:=by rw[<-hr.len];simp
  refine⟨rfl,λm c' Q e=>?_,λm i k e=>?_,λm g b i k o F G X M z5=>?_,λm g b c1 d1 c2 d2 F G X M=>?_⟩
  .rcases f m _ e with ⟨c,_⟩|⟨rfl,c⟩
   .obtain⟨b,w⟩:=hr.ox.ob m c' Q c;obtain⟨qs,C,L⟩:=w.dc;exact⟨b,rn _ _ w.at_,qs,C,L.imp (λw=>⟨w.1,by rw[aJ (bh w.2 hp)];exact w.2⟩) λw=>⟨w.1,let ⟨o,I⟩:=w.2;⟨o,by rw[aJ (bh I hp)];exact I⟩⟩⟩
   .cases c;exact⟨p,P,ps,hl,.inl ⟨rfl,dZ⟩⟩
  .rcases f m _ e with ⟨c,_⟩|⟨_,c⟩
   .obtain⟨b,o,w1,I,w3⟩:=hr.ox.pv m i k c;exact⟨b,o,rn _ _ w1,by rw[aJ (bh I hp)];exact I,w3⟩
   .cases c
  .rcases f m _ X with ⟨c,N⟩|⟨_,c⟩
   .rcases f g _ M with ⟨d,J⟩|⟨_,d⟩
    .exact hr.ox.jp m g b i k o (ro _ _ N F) (ro _ _ J G) c d z5
    .subst d;cases z5
   .cases c
  .have ne:∀(j:Nat) Y Z,h[j]?=some (.obj Y Z)->r[j]?≠some p:=λj Y Z w z=>by
    obtain⟨b,y⟩:=hr.ox.ob j Y Z w;have:=y.at_;rw[z]at this;cases this;obtain⟨qs,_,⟨_,y2⟩|⟨_,_,y2⟩⟩:=y.dc<;>rw[hp]at y2<;>cases y2
   rcases f m _ X with ⟨c,N⟩|⟨rfl,c⟩
   .rcases f g _ M with ⟨d,J⟩|⟨rfl,d⟩
    .exact hr.ox.jo m g b c1 d1 c2 d2 (ro _ _ N F) (ro _ _ J G) c d
    .rw[P]at G;cases G;exact absurd (ro _ _ N F) (ne m c1 d1 c)
   .rcases f g _ M with ⟨d,J⟩|⟨rfl,d⟩
    .rw[P]at F;cases F;exact absurd (ro _ _ J G) (ne g c2 d2 d)
    .rfl
end
def oW{c:Ev.Cl}{h:Hh}{o:Option D}{n:Nat}{ds:List D}(e:Ev.ku c h o=some (n,ds)):h[n]?=some (.obj c ds)/\o=some (.ref n):=by
 unfold Ev.ku at e;split at e
 .split at e
  .split at e
   .rename_i z a;subst a;cases e;exact⟨z,rfl⟩
   .cases e
  .cases e
 .cases e
def DQ{ds es:List D}(e:Ev.wj Ev.cD ds 0=some es):ds[0]?=some (.tup es):=by
 unfold Ev.wj at e;split at e
 .split at e
  .rename_i z;cases e;exact z
  .cases e
 .cases e
def uu.one{H:Hp}{r:List Addr}{n:Nat}{ds es:List D}{a:Addr}(q:uu H r n ds a)(e:ds[0]?=some (.tup es)):ds=[.tup es]:=by
 obtain⟨b,_,⟨rfl,_⟩|⟨rfl,_⟩⟩:=q.dc <;> (cases e;rfl)
def DR{P:aS}{op:Ev.FU}{i k:Nat}{fr:Fr}{h h':Hh}{d:D}(e:Ev.ev P (.fu Ev.cD op i 0 (.cons (.v k) .nil)) fr h=.ok d h'):∃n ds es ky,fr[i]?.join=some (.ref n)/\h[n]?=some (.obj Ev.cD ds)/\ds[0]?=some (.tup es)/\fr[k]?.join=some ky/\Ev.rO op es [ky] h=.ok d h':=by
 simp only[Ev.ev,Ev.bL]at e;split at e
 case isFalse=>cases e
 obtain⟨B,C,f,a⟩:=Ev.ai e;obtain⟨ky,F,g,c⟩:=Ev.ai f;obtain⟨j,l⟩:=Ev.aF g;subst l;rw[Ev.ao]at c;injection c with o p
 subst o p;split at a
 case h_2=>cases a
 rename_i n ds q;obtain⟨r,b⟩:=oW q;obtain⟨es,G,x,y⟩:=Ev.ai a;obtain⟨z,A⟩:=Ev.aF x;subst A;exact⟨n,ds,es,ky,b,r,DQ z,j,y⟩
def jG{P:aS}{i:Nat}{fr:Fr}{h:Hh}{d:D}(e:fr[i]?.join=some d):Ev.ev P (.v i) fr h=.ok d h:=by simp only[Ev.ev,e];rfl
section
variable{G:Tb}{n:Nat}{sc:Scope}{N:List Str}{df:Bool}{m:List Nat}{a c:E}{xa xb xc:Expr}{pos:Pos}
def KZ{i:Nat}{x:Str}{pos' p:Pos}(h:gB sc N df m x i=true)(hs:autoParam (∀env:Env,swapsWith (.Dict [] [] p) (some (.Name x pos')) pos.line env=pure false) zf._auto_1):JS G n sc N df m (.nQ i .nil) (.Assign [.Name x pos'] (.Dict [] [] p) pos):=λX g=>by
 obtain⟨j,f,l,o,y,z⟩:=gB.of h;obtain⟨A,B⟩:=g.loc o;refine PS.of (rB (i:=j) (by rw[g.nm];exact z) (by rw[g.nm];exact l) A FH (hs _) B) λQ s H q=>?_;obtain⟨r,I,h,fl,J,K,C,d,e,q⟩:=q;simp only[Ev.fR,Ev.bL,Ev.ao,Ev.wk,Ev.cR]at e;cases e;intro p b;exact q _ _ (r++[p]) ((C.mono (Fm.laid b)).set y f ⟨p,rfl,by rw[<-d.len];simp⟩) (d.mw (ps:=[]) b λq F=>nomatch F) (Fm.laid b)
def K0 {i k:Nat}{jj:Nat}{apos p0:Pos}(ha:JE G n sc N df m (.v i) xa) (hb:JE G n sc N df m (.v k) xb) (hM:∀X:Cx,M2 X xa "get" apos xb (.Constant (.int 0) jj p0) pos:=by intro X;exact⟨rfl,rfl,rfl,rfl⟩):JE G n sc N df m (.fu Ev.cD .qI i 0 (.cons (.v k) .nil)) (.Call (.Attribute xa "get" apos) [xb,.Constant (.int 0) jj p0] [] pos):=λX g=>PE.of (FL (vj g.room) (ha X g) (hb X g) (CU (i:=0) (pos:=p0) (j:=jj) X g) (hM X)) λs H Q q=>by
 obtain⟨r,o,h,d,b,x,hr,e,q⟩:=q;obtain⟨nn,ds,es,ky,y1,I,J,y4,y⟩:=DR e;cases ky with
 |str A=>
  simp only[Ev.rO]at y;obtain⟨y6,rfl⟩:=Ev.aF y;obtain⟨ps,K,rfl⟩:=Option.map_eq_some_iff.mp y6;refine⟨r,o,b,.ref nn,b,x,hr,jG y1,λv H1 r1 v1 f f1=>?_⟩;obtain⟨p1,l⟩:=f.oc I;obtain⟨p,rfl,L⟩:=id v1;rw[l.at_]at L;cases L;obtain⟨w2,_⟩:=l.mu (l.one J) K;refine⟨p1,rfl,.inl ⟨_,.inl w2⟩,r1,o,b,.str A,b,x.mono f1,f,jG y4,λu H2 r2 M B f2=>?_⟩;refine⟨r2,o,b,.int 0,b,(x.mono f1).mono f2,B,by simp only[Ev.ev],λt H3 P W C f3=>?_⟩;obtain⟨p2,F⟩:=C.oc I;have Y:=f3.pre _ _ (f2.pre _ _ l.at_);rw[F.at_]at Y;cases Y;obtain⟨x2,_⟩:=F.mu (F.one J) K;simp only[RV]at M W;obtain⟨rfl,_⟩:=M;subst W;have Z:=m7.k (k:=Sum.inr (aO A)) x2;rw[DO]at Z;refine⟨_,Z,?_⟩;cases ev:Ev.cV ps A with
  |none=>rw[ev]at q;exact q _ H3 P rfl C ((f1.trans f2).trans f3)
  |some z=>rw[ev]at q;exact q _ H3 P rfl C ((f1.trans f2).trans f3)
 |_=>cases y
def GI{i k:Nat}(ha:JE G n sc N df m (.v i) xa)(hb:JE G n sc N df m (.v k) xb)(hs:autoParam (Bo xb) zl._auto_1):JE G n sc N df m (.fu Ev.cD .oJ i 0 (.cons (.v k) .nil)) (.Subscript xa xb pos):=λX g=>PE.of (zH (vj g.room) (ha X g) (hb X g) hs) λs H Q q=>by
 obtain⟨r,x,h,d,f,y,F,e,q⟩:=q;obtain⟨nn,ds,es,I,J,K,L,M,j⟩:=DR e;cases I with
 |str A=>
  simp only[Ev.rO]at j;obtain⟨P,rfl⟩:=Ev.aF j;obtain⟨z,W,rfl⟩:=Option.map_eq_some_iff.mp P;obtain⟨ps,Y,Z⟩:=Option.bind_eq_some_iff.mp W;refine⟨r,x,f,.ref nn,f,y,F,jG J,λv H1 r1 v1 l f1=>?_⟩;refine⟨r1,x,f,.str A,f,y.mono f1,l,jG M,λu H2 r2 B b f2=>?_⟩;obtain⟨p1,o⟩:=b.oc K;obtain⟨p,rfl,C⟩:=v1.mono f2;rw[o.at_]at C;cases C;obtain⟨w2,_⟩:=o.rd (o.one L) Y;simp only[RV]at B;obtain⟨rfl,_⟩:=B;refine⟨p1,.int z,rfl,.inl ⟨_,Sum.inr (aO A),w2,rfl,?_⟩,q _ H2 r2 rfl b (f1.trans f2)⟩;rw[DO,Z];rfl
 |_=>cases j
def GJ{i k:Nat}{tp:Pos}(ho:JE G n sc N df m (.v i) xa)(hi:JE G n sc N df m (.v k) xb)(hv:JE G n sc N df m c xc)
  (hs:autoParam (∀env:Env,swapsWith xc (some (.Subscript xa xb tp)) pos.line env=pure false) zf._auto_1):JS G n sc N df m (.exp (.fm Ev.cD .dput i 0 (.cons (.v k) (.cons c .nil)))) (.Assign [.Subscript xa xb tp] xc pos):=λX g=>PS.of (Kh (vj g.room) (ho X g) (hi X g) (hv X g) (hs _)) λQ s H q=>by
 obtain⟨r,l,h,fl,aj,h',f,hr,e,q⟩:=q;simp only[Ev.fR,Ev.ev,Ev.bL]at e;obtain⟨dd,h9,o,Yi⟩:=Ev.ai e;cases Yi;split at o
 case isFalse=>cases o
 obtain⟨as,h1,e1,x⟩:=Ev.ai o;obtain⟨ky,h2,e3,e4⟩:=Ev.ai e1;obtain⟨e5,e6⟩:=Ev.aF e3;subst e6;obtain⟨vs,h3,e7,e8⟩:=Ev.ai e4;obtain⟨vv,h4,e9,M⟩:=Ev.ai e7;rw[Ev.ao]at M;injection M with xg xj
 subst xg xj;injection e8 with OH OI
 subst OH OI;split at x
 case h_2=>cases x
 rename_i nn ds A;obtain⟨P,B⟩:=oW A;obtain⟨pr,h5,DS,OJ⟩:=Ev.ai x;obtain⟨OL,OM⟩:=Ev.aF DS;subst OM;cases OJ;obtain⟨es,ON,b⟩:=Option.bind_eq_some_iff.mp OL;have y3:=DQ ON;cases ky with
 |str j=>
  cases vv with
  |int z=>
   simp only[Ev.wm]at b;split at b
   case isFalse=>cases b
   rename_i hl;obtain⟨ps,DT,OO⟩:=Option.map_eq_some_iff.mp b;cases OO;refine⟨r,l,h2,.int z,_,f,hr,e9,λv H1 r1 W C f1=>?_⟩;refine⟨r1,l,_,.ref nn,_,f.mono f1,C,jG B,λu H2 r2 v2 F f2=>?_⟩;refine⟨r2,l,_,.str j,_,(f.mono f1).mono f2,F,jG e5,λt H3 r3 Y Z f3=>?_⟩;obtain⟨p1,d⟩:=Z.oc P;obtain⟨p,rfl,x4⟩:=v2.mono f3;rw[d.at_]at x4;cases x4;have x5:=d.one y3;obtain⟨I,x3⟩:=d.mu x5 DT;simp only[RV]at W Y;subst W;obtain⟨rfl,lk⟩:=Y;have Yj:(b9 ps).length<sizeLine:=by
    have:=aau List.length (wZ DT);rw[aaq]at this;unfold b9;rw[aaq,<-this,aa8];omega
   have gg:=v9.k (k:=Sum.inr (aO j)) (v:=V.int z) I Yj;rw[DP]at gg;refine⟨p1,_,rfl,gg,?_⟩;have fp:=Fm.w9 (K:=X.K) (y:=.dK (b9 (Ev.fJ ps j z))) I (aag d.at_);refine q _ _ r3 ((((f.mono f1).mono f2).mono f3).mono fp) (Z.w9 P d.at_ I ⟨Ev.fJ ps j z,λp hp=>?_,.inl ⟨?_,rfl⟩⟩) (((f1.trans f2).trans f3).trans fp)
   .rcases Ah hp with ⟨q,J,L⟩|J
    .rw[<-L];exact x3 q J
    .rw[J];exact lk
   .rw[x5];rfl
  |_=>cases b
 |_=>cases b
def freeze{X:Cx}{pins:List (Addr×Obj)}{σ:L2.St}{H:Hp}{s:Shared}{a:Addr}{kvs:List (Key×V)}(I:Inv X pins σ H s)(ha:H a=some (.dK kvs)):∃o,Inv X pins σ (upd H a (.bK o (.dK kvs))) s:=by
 obtain⟨z,e,f,b,dd⟩:=Bm I.hok ha;obtain⟨o,g,h,d,i⟩:=id dd;exact⟨o,pO (h':=s.heap) (t':=s.toks) I (by rw[ha];exact True.intro) ⟨rfl,λ_ _=>rfl⟩ ⟨o,d⟩ ⟨d,rL z e b dd⟩⟩
def K1{i:Nat}{ss:Ss}{xs:List Stmt}(h:kC G n sc N df m ss xs):kC G n sc N df m (.cons (.exp (.fm Ev.cD .qJ i 0 .nil)) ss) xs:=λX g=>by
 intro b s σ H Q I q;obtain⟨r,C,h0,fl,F,J,L,p,e,q⟩:=q;simp only[Ev.exs,Ev.fR,Ev.ev,Ev.bL,Ev.ao]at e;obtain⟨p1,h1,M,P⟩:=Ev.ai e;obtain⟨d1,h2,d,W⟩:=Ev.ai M;cases W;split at d
 case isFalse=>cases d
 split at d
 case h_2=>cases d
 rename_i nn ds j;obtain⟨x,Y⟩:=oW j;obtain⟨pr,h5,DS,OJ⟩:=Ev.ai d;obtain⟨OL,OM⟩:=Ev.aF DS;subst OM;cases OJ;obtain⟨es,ON,z⟩:=Option.bind_eq_some_iff.mp OL;have Z:=DQ ON;simp only[Ev.wm]at z;obtain⟨ps,DT,OO⟩:=Option.map_eq_some_iff.mp z;cases OO;obtain⟨a,f⟩:=p.oc x;have A:=f.one Z;obtain⟨l,x3⟩:=f.mu A DT;obtain⟨o,I'⟩:=freeze I l;have B:=Fm.w9 (K:=X.K) (y:=.bK o (.dK (b9 ps))) l (aag f.at_);exact h X g b s σ _ Q I' ⟨r,C,_,fl,F,J,L.mono B,p.w9 x f.at_ l ⟨ps,x3,.inr ⟨by rw[A,wZ DT];rfl,o,rfl⟩⟩,P,q.later B⟩
end
noncomputable def Va(a:Addr)(o:Obj)(ps:List (List Nat×Int)):L2.It:=
 ⟨λi H=>H a=some (.bK o (.dK (b9 ps)))/\i<ps.length,λi H x H'=>H'=H/\∃p,ps[i]?=some p/\x=.str (aO p.1),λi H=>H a=some (.bK o (.dK (b9 ps)))/\ps.length<=i⟩
def Ai{P:Program}{w:World}{z:Str}{v:Value}(h:(aQ P w).is (Sum.inr z) v=true):∃t,v=.str z t:=by
 rcases dI (show kQ (Sum.inr z) v=true from h)with ⟨i,t,e,a⟩|⟨x,t,e,a⟩<;>cases a<;>first|cases e|skip
 exact⟨_,rfl⟩
def DU{P:Program}{w:World}{K:PySem.W.Frag}{tg:Expr}{a it:Addr}{o:Obj}{ps:List (List Nat×Int)}{vs:List (Key×Value)}{ep:Nat}{h0:Heap}(ho:h0.get? a=some o)(hd:h0.DictAt (aQ P w) a vs ep)(rel:KV (b9 ps) vs) :
  Turn P w K tg (Va a o ps) [it] it (λi h=>h.IsKeyIter it a i vs.length ep) where
 mem:=by simp
 obj:=λi h f b j=>by
  have e:b=it:=by simpa using j
  subst e;obtain⟨o,e,c,d⟩:=f;exact⟨o,e,λv z=>by rw[d]at z;cases z⟩
 keep:=λi h y f k=>f.at λo e=>k it (by simp) o e
 item:=by
  intro X A B C M i g s σ H E I hf f hg;subst A B C;obtain⟨F,N⟩:=hg;obtain⟨G,_⟩:=(show dJ X.prog X.w H s.heap a (.bK o (.dK (b9 ps)))from I.hok a _ F)
  have J:s.heap.DictAt (aQ X.prog X.w) a vs ep:=hd.at' λQ l=>by rw[ho]at l;cases l;exact G
  have Z:=rel.length;have L:(b9 ps).length=ps.length:=by unfold b9;simp
  obtain⟨⟨k,x⟩,hx⟩:∃p,vs[i]?=some p:=⟨vs[i]'(by omega),QJ _⟩
  obtain⟨f0,f1,f2,f3,f4,f5⟩:=hf it (by simp);refine wpAny_pyNext_dict_item f J hx λkey y q r sb=>?_;have I1:Inv X g σ H { s with heap:=y }:=I.turned (t':=s.toks) (λb o j e=>(sb.2 b j).trans e) f0 f1 f3 f4 f5;have Y:ps[i]?=some ps[i]:=QJ N;have hk:k=Sum.inr (aO ps[i].1):=by
   have:=aau (·[i]?) rel.keys;simp only[aaA,hx,b9,Y,Option.map_some]at this;exact(W0 this).symm
  subst hk;obtain⟨t,rfl⟩:=Ai q;obtain⟨Q,e,c,d⟩:=id r;exact⟨_,rfl,vf (s:={ s with heap:=y }) e c d (by decide) ⟨.str (aO ps[i].1),H,I1,⟨t,rfl⟩,⟨rfl,ps[i],Y,rfl⟩,r,λb j=>(hf b j).1⟩⟩
 done:=by
  intro X A B C M i g s σ H E I hf f hg;subst A B C;obtain⟨F,N⟩:=hg;obtain⟨G,_⟩:=(show dJ X.prog X.w H s.heap a (.bK o (.dK (b9 ps)))from I.hok a _ F)
  have J:s.heap.DictAt (aQ X.prog X.w) a vs ep:=hd.at' λQ l=>by rw[ho]at l;cases l;exact G
  have Z:=rel.length;have L:(b9 ps).length=ps.length:=by unfold b9;simp
  obtain⟨f0,f1,f2,f3,f4,f5⟩:=hf it (by simp);exact wpAny_pyNext_dict_end (I.ok.hd M) f J (aar (by omega)) λy eb=>⟨rfl,I.turned (t':=s.toks) (λb o j e=>eb b o j e) f0 f1 f3 f4 f5⟩
 self:=λ_ _ _ _ _ f h=>wpAny_pyIter_keyiter f h
def K2{K:PySem.W.Frag}{r:List Addr}{H:Hp}{a:Addr}{o:Obj}{ps:List (List Nat×Int)}{ck:List (Nat×List D)}(hq:H a=some (.bK o (.dK (b9 ps))))(hl:∀p∈ps,p.1.length<=sizeLine):qM K r H (ps.map λp=>D.str p.1,ck) (Va a o ps):=λi H1 h l b f1 q=>by
 have f:=f1.fin a o _ hq;refine⟨λd e=>?_,λj=>⟨f,by simpa using j⟩⟩;rw[aaA]at e;obtain⟨p,c,rfl⟩:=Option.map_eq_some_iff.mp e;refine⟨⟨f,(List.getElem?_eq_some_iff.mp c).1⟩,λx H2 y=>?_⟩;obtain⟨rfl,z,g,rfl⟩:=y;rw[c]at g;cases g;exact⟨h,⟨rfl,hl p (aag c)⟩,b,.refl⟩
section
variable{G:Tb}{n:Nat}{sc:Scope}{N:List Str}{df:Bool}{m:List Nat}{b:E}{xa tg:Expr}
def OP{i:Nat}(ha:JE G n sc N df m (.v i) xa):JI G n sc N df m (.qq Ev.cD i) tg xa:=λX g=>by
 intro f s σ H Rr I q;obtain⟨r,Z,h,src,C,sr,hr,e,q⟩:=q;rw[Ev.dj]at e;split at e
 case h_2=>cases e
 rename_i nn ds F;obtain⟨oX,J⟩:=oW F;obtain⟨e1,rfl⟩:=Ev.aF e;obtain⟨ps,e2,rfl⟩:=Option.map_eq_some_iff.mp e1;obtain⟨es,e3,A⟩:=Option.bind_eq_some_iff.mp e2;have y3:=DQ e3;refine bQ (ha X g f s σ H (λx H1=>∃c,RV X.K H1 c (.ref nn) x/\HR X.K H1 c C/\Fm X.K r c H H1) I ⟨r,Z,C,.ref nn,C,sr,hr,jG J,λv H1 c L a f1=>⟨c,L,a,f1⟩⟩) λv s1 z=>?_;obtain⟨x,H1,I1,rx,c,L,a,f1⟩:=z;obtain⟨M,P⟩:=a.oc oX;obtain⟨p,rfl,W⟩:=id L;rw[P.at_]at W;cases W;cases rx;obtain⟨d,q1,j⟩:=P.dc;have B:=P.one y3;obtain⟨o,l⟩:∃o,H1 M=some (.bK o (.dK (b9 ps)))/\d=ps:=by
  rcases j with ⟨j,Y⟩|⟨j,o,Y⟩
  .rw[j]at B;cases B;cases d with
   |nil=>cases A
   |cons p d=>cases A
  .rw[j]at B;cases B;have:Ev.FQ (.aD :: d.map Ev.g8)=some d:=oV d;rw[this]at A;cases A;exact⟨o,Y,rfl⟩
 obtain⟨l,rfl⟩:=l;obtain⟨g1,_⟩:=(show dJ X.prog X.w H1 s1.heap M (.bK o (.dK (b9 d)))from I1.hok M _ l)
 obtain⟨_,lo,vs,Q,dd⟩:=m6 I1.hok (.inr ⟨o,l⟩);obtain⟨ep,y⟩:=dd.dictAt;refine wpAny_pyIter_dict (knd:=aQ X.prog X.w) lo y ?_;exact⟨s1.heap.objs.size,[s1.heap.objs.size],_,_,H1,rfl,I1.kept (t':=s1.toks) λb o e=>aac _ e,DU g1 y Q,⟨_,aat _ rfl,rfl,rfl⟩,λb hb=>by
  have e:b=s1.heap.objs.size:=by simpa using hb
  subst e;exact I1.Ba (aae _) (I1.hok.fresh (aae _)),q _ H1 c a f1 (K2 l q1)⟩
end
def xm{kvs:List (Key×Value)}{ns:List Str}(hk:kvs.map (·.1)=ns.map Sum.inr){P:Program}{w:World}:∀{vs:List Value},vs.length=kvs.length->(∀(j:Nat) v,vs[j]?=some v->∃k x,kvs[j]?=some (k,x)/\(aQ P w).is k v=true)->StrsAre vs ns:=by
 induction kvs generalizing ns with
 |nil=>
  intro vs a _;have:ns=[]:=by cases ns with|nil=>rfl|cons n ns=>simp at hk
  subst this;rw[List.eq_nil_of_length_eq_zero a];exact .nil
 |cons p kvs e=>
  intro vs a c;cases ns with
  |nil=>simp at hk
  |cons n ns=>
   simp only[aai,List.cons.injEq]at hk;cases vs with
   |nil=>simp at a
   |cons v vs=>
    obtain⟨k,x,d,f⟩:=c 0 v rfl;simp at d;subst d;have b:k=Sum.inr n:=hk.1;subst b;obtain⟨t,rfl⟩:=Ai f;refine .cons n t (e hk.2 (by simpa using a) λj u g=>?_);obtain⟨h,i,l,o⟩:=c (j+1) u (by simpa using g);exact⟨h,i,by simpa using l,o⟩
def xo{prog:Program}{w:World}{A:Around}{E:Value->Shared->Prop}{s:Shared}{d:Addr}{kvs:List (Key×Value)}{ns:List Str}{Q:Value->Shared->Prop}(hd:s.heap.DictOf (aQ prog w) d kvs)(lo:(d==sysModules)=false)(hh:A.handled=none)(hk:kvs.map (·.1)=ns.map Sum.inr)(h64:kvs.length<64)
  (h:∀(h1 h2:Heap) (tk:Nat) (out:Array Value) (ns':List Str) (e:Nat),(∀b o,s.heap.get? b=some o->h1.get? b=some o)->(∀b o,h1.get? b=some o->h2.get? b=some o)->h2.get? h1.objs.size=some (seqObj "list" out e)->StrsAre out.toList ns'->ns'.Perm ns->sortedS ns'=true->Q (.ref h1.objs.size) { s with heap:=h2,toks:=tk }) :
  wpAny (model prog w) A (call (.builtin "sorted") [.ref d]) Q E s:=by
 obtain⟨ep,g⟩:=hd.dictAt;have f:kvs.length<=sizeLine:=aas (acZ h64) (by decide);refine Calls.call_function_entry kind_sorted plain_sorted entry_sorted (args_sorted1 _) ?_;unfold Builtin.«sorted»;refine gV (m:=checkCount "sorted" 1 1 _) (aaf ?_);refine gV (PySem.W.kdu_collect (A:=A.in1) (PySem.W.kdl_dict (knd:=aQ prog w) (kvs:=kvs) (ep:=ep) lo) hh g f λi tk a l c=>?_);have p:a.toList.length=kvs.length:=by rw[abE];exact c.1
 refine gV (wpAny_newList ?_ (by rw[p];exact f));have q:StrsAre a.toList ns:=xm hk p λj v e=>c.2 j v (by rw[<-Array.getElem?_toList];exact e);have r:(i.push (seqObj "list" a.toList.toArray 0)).get? i.objs.size=some (seqObj "list" a.toList.toArray 0):=aat _ rfl;refine gV (wpAny_holding (abm slot_list_sort ⟨_,r,rfl⟩ entry_list_sort (list_sort_treeK strKind_oneLt r q.keysOf (λI J rest e=>keyKind_strs (by rw[<-e];exact q)) (by rw[p];exact h64) λx B C=>⟨_,rfl,?_⟩) (args_list_sort _)));obtain⟨ns',y,F,G⟩:=sorted_out_str q B C;generalize ((arrOf x).map (·.2))=out at y ⊢
 obtain⟨e,H⟩:=sortedHeap_at (out:=out) r;exact aaf ⟨_,rfl,h i _ tk out ns' e l (λb o z=>by
  have lt:=aan z;rw[sortedHeap_old (aaB lt) (by rw[size_push'];exact Nat.lt_succ_of_lt lt),Heap.get?_push_ne _ _ _ (aaB lt)];exact z) H y F G⟩
inductive Vb(K:PySem.W.Frag)(xs:List V)(H:Hp)(Q:VK):Prop
 |mk (r:List Addr) (h:Hh) (nn:Nat) (x:V) (ds es:List D) (ps:List (List Nat×Int)) (d:D) (h':Hh) (c0:HR K H r h) (c1:xs=[x]) (c2:RV K H r (.ref nn) x) (c3:h[nn]?=some (.obj Ev.cD ds)) (c4:ds[0]?=some (.tup es)) (c5:Ev.qK es=some ps) (c6:ps.length<64) (c7:Ev.alloc ((Ev.br (ps.map (·.1))).map D.str) h=.ok d h') (c8:Res K r H h' d Q):Vb K xs H Q
def GK {X:Cx}(hc:X.calm=true):gi X (.builtin "sorted") (Vb X.K):=by
 intro a s σ H xs us Q I rx q;obtain⟨r,h,nn,x,ds,es,ps,d,h',i,rfl,A,B,C,F,G,e,q⟩:=q;obtain⟨p1,b⟩:=i.oc B;obtain⟨p,rfl,j⟩:=id A;rw[b.at_]at j;cases j;obtain⟨J,L⟩:=b.rd (b.one C) F;obtain⟨u,rfl,M⟩:=vals1 rx;cases M;obtain⟨_,N,P,y,W⟩:=m6 I.hok J;have hl:=y.length;have Y:(b9 ps).length=ps.length:=by unfold b9;simp
 have Z:P.map (·.1)=((ps.map (·.1)).map aO).map Sum.inr:=by
  rw[<-y.keys];unfold b9;simp[ab0,Function.comp_def]
 refine xo W N (I.ok.hd hc) Z (by omega) λz h2 tk out ns' e2 c1 c2 c3 a1 a2 a3=>?_;have hq:=oR a2 a3;subst hq;have c:∀l∈Ev.br (ps.map (·.1)),l.length<=sizeLine:=λl f=>by
  obtain⟨p,hp,rfl⟩:=List.mem_map.mp ((iW _).mem_iff.mp f);exact L p hp
 obtain⟨g,q2⟩:=q.lst e (aH.ofStrs c) i;have I1:Inv X a σ H { s with heap:=z,toks:=tk }:=I.kept c1;refine⟨.ref z.objs.size,_,I1.laid (t':=tk) (o:=.lst ((Ev.br (ps.map (·.1))).map λl=>V.str (aO l))) c2 (aae _) ?_,rfl,q2 _ (I1.hok.fresh (aae _))⟩;exact⟨g,out.toList,e2,kY a1,by simpa[seqObj]using c3⟩
section
variable{G:Tb}{n:Nat}{sc:Scope}{N:List Str}{df:Bool}{m:List Nat}{xa:Expr}{pos:Pos}
def K4 {i:Nat}{p:Pos}(ha:JE G n sc N df m (.v i) xa) (h1:autoParam (("sorted" : Str)∈G.bl) zi._auto_1) (rT:autoParam (sc.names.lookup ("sorted" : Str)=some .globalImplicit) zb._auto_1)
  (hst:autoParam (∀env:Env,starEach [xa] env=[(false,eval xa env)]) zf._auto_1):JE G n sc N df m (.fu Ev.cD .tB i 0 .nil) (.Call (.Name "sorted" p) [xa] [] pos):=λX g=>by
 refine PE.of (vV (GK g.calm) (g.gl rT) (g.bl _ h1) (show bootBuiltins ("sorted" : Str)=some (.builtin "sorted")by decide +kernel) (j7 (ha X g) mj (hst _)) (by decide) (by decide) (hst _) rfl) λs H Q q=>?_;obtain⟨r,l,h,d,o,x,y,e,q⟩:=q;simp only[Ev.ev,Ev.bL,Ev.ao]at e;split at e
 case isFalse=>cases e
 split at e
 case h_2=>cases e
 rename_i nn ds b;obtain⟨z,c⟩:=oW b;obtain⟨A,M,B,a⟩:=Ev.ai e;obtain⟨C,F⟩:=Ev.aF B;subst F;have I:=DQ C;simp only[Ev.rO]at a;split at a
 case h_2=>cases a
 rename_i ps J;split at a
 case isFalse=>cases a
 rename_i f;refine⟨r,l,_,.ref nn,_,x,y,jG c,λv H1 K L j f1=>?_⟩;exact⟨K,_,nn,v,ds,A,ps,d,o,j,rfl,L,z,I,J,f,a,q.later f1⟩
end
theorem xq:∀(qs ps:List (List Nat×Int)),g7 (b9 ps) (b9 qs)=b9 (qs.foldl (λa p=>Ev.fJ a p.1 p.2) ps)
 |[],_=>rfl
 |q :: qs,ps=>by
  show g7 (putK (b9 ps) (Sum.inr (aO q.1)) (V.int q.2)) (b9 qs)=_;rw[DP];exact xq qs _
theorem Aj:∀{qs ps:List (List Nat×Int)}{p:List Nat×Int},p∈qs.foldl (λa p=>Ev.fJ a p.1 p.2) ps->(∃q∈ps,q.1=p.1)\/∃q∈qs,q.1=p.1
 |[],ps,p,h=>.inl ⟨p,h,rfl⟩
 |q :: qs,ps,p,h=>by
  rcases Aj (qs:=qs) h with ⟨x,b,e⟩|⟨x,b,e⟩
  .rcases Ah b with ⟨y,d,c⟩|c
   .exact .inl ⟨y,d,c.trans e⟩
   .exact .inr ⟨q,.head _,c.symm.trans e⟩
  .exact .inr ⟨x,.tail _ b,e⟩
theorem Ak{X:Cx}{pins:List (Addr×Obj)}{σ:L2.St}{H:Hp}{s:Shared}{r:List Addr}(I:Inv X pins σ H s):∀{ds:List D}{ks:List (List Nat×Int)}{vs:List V}{us:List Value},Ev.gr ds=some ks->aH X.K H r ds vs->Vals vs us->
  ∃rs:List (Key×Value),KV (b9 ks) rs/\rs.length=us.length/\(∀p∈ks,p.1.length<=sizeLine)/\∀(j:Nat) (u:Value),us[j]?=some u->∃kv,rs[j]?=some kv/\∃b o key n,u=.ref b/\s.heap.get? b=some o/\o.cls=.type "tuple" /\o.data=.seq #[key,kv.2] n/\(aQ X.prog X.w).is kv.1 key=true
 |[],ks,vs,us,e,w,p=>by
  cases e;simp only[aH]at w;subst w;cases p;exact⟨[],.nil,rfl,(λp a=>nomatch a),λj u h=>by simp at h⟩
 |d :: ds,ks,vs,us,e,w,p=>by
  unfold Ev.gr at e;split at e
  .rename_i z;cases z
  .rename_i k g i z;cases z;obtain⟨l,q,rfl⟩:=Option.map_eq_some_iff.mp e;simp only[aH,RV]at w;obtain⟨v,N,rfl,⟨x,P,rfl,a,Q,W,rfl,⟨rfl,y⟩,Y,Z,rfl,rfl,rfl⟩,w⟩:=w;cases p with
   |cons A B=>
   cases A;obtain⟨rs,i0,i1,i2,i3⟩:=Ak I q w B;obtain⟨C,pv,⟨o,F,G,nn,J⟩,_⟩:=I.tuple a;cases pv with
   |cons L c=>
   cases c with
   |cons c M=>
   cases M;obtain⟨t,rfl⟩:=L;obtain⟨f,rfl⟩:=c;refine⟨(Sum.inr (aO k),.int g f) :: rs,.cons ⟨rfl,⟨f,rfl⟩⟩ i0,by simp[i1],λp a=>?_,λj u h=>?_⟩
   .rcases List.mem_cons.mp a with rfl|a
    .exact y
    .exact i2 p a
   cases j with
   |zero=>
    simp only[List.getElem?_cons_zero,abS]at h;subst h;exact⟨_,rfl,x,o,_,nn,rfl,F,G,J,pN (k:=Sum.inr (aO k)) ⟨t,rfl⟩⟩
   |succ j=>exact i3 j u (by simpa using h)
  .cases e
inductive Vc(K:PySem.W.Frag)(xs:List V)(H:Hp)(Q:VK):Prop
 |mk (r:List Addr) (h:Hh) (d:D) (x:V) (ps:List (List Nat×Int)) (c0:HR K H r h) (c1:xs=[x]) (c2:RV K H r d x) (c3:Ev.wk [d] h=some ps) (c4:(∀q∈ps,q.1.length<=sizeLine)->∀p,H p=none->Q (.ref p) (upd H p (.dK (b9 ps)))):Vc K xs H Q
section
variable{X:Cx}{G:Tb}{n:Nat}{sc:Scope}{N:List Str}{df:Bool}{m:List Nat}{a:E}{xa:Expr}{pos:Pos}
def GN (g:Good G n sc N df X):gi X (.type "dict") (Vc X.K):=by
 intro l s σ H xs us Q I rv q;obtain⟨r,h,d,x,ps,L,rfl,M,e,q⟩:=q;have b:∃i,d=.ref i:=by
  cases d<;>first|exact⟨_,rfl⟩ | (exfalso;cases e)
 obtain⟨i,rfl⟩:=b;simp only[Ev.wk]at e;obtain⟨ds,P,W⟩:=Option.bind_eq_some_iff.mp e;obtain⟨ks,Y,f⟩:=Option.bind_eq_some_iff.mp W;split at f
 case isFalse=>cases f
 rename_i hk;cases f;obtain⟨p,rfl,z⟩:=M.shape;obtain⟨p',vs,y,Z,w⟩:=L.read P;rw[z]at y;cases y;obtain⟨u,rfl,ru⟩:=vals1 rv;cases ru;obtain⟨its,pv,⟨o,nn,g1,A,B,C⟩,hz⟩:=I.list Z;obtain⟨Zd,Y6,Y7,Yk⟩:=o;dsimp only at A B C;subst A B C;obtain⟨rs,i0,i1,i2,i3⟩:=Ak I Y w pv;have il:=i0.length;have Zj:(b9 ks).length=ks.length:=by unfold b9;simp
 refine Dz (rs:=rs) (I.ok.hd g.calm) g1 (by simpa using i1) (by simp only[Xm];omega) (λj u hu=>i3 j u (by simpa using hu)) λh2 tk dd kp=>?_;have hn:=I.hok.fresh (aae s.heap.objs.size);have F:=xq ks [];have hl:(b9 (Ev.mw ks)).length<=sizeLine:=by
  have J:=jO (b9 ks) [];rw[show g7 [] (b9 ks)=b9 (Ev.mw ks)from F]at J;simp only[ab4]at J;rw[aa8];omega
 have c:=i0.merge (kvs:=[]) (vs:=[]) .nil;rw[show g7 [] (b9 ks)=b9 (Ev.mw ks)from F]at c;refine⟨.ref s.heap.objs.size,_,I.laid (t':=tk) (o:=.dK (b9 (Ev.mw ks))) kp (aae _) (rL hl (beq_eq_false_iff_ne.mpr (acY I.big)) c dd),rfl,q (λq hq=>?_) _ hn⟩;rcases Aj hq with ⟨x,b,_⟩|⟨x,b,e⟩
 .cases b
 .rw[<-e];exact i2 x b
def K5 {i:Nat}{x:Str}{pos' p cpos:Pos}(h:gB sc N df m x i=true) (ha:JE G n sc N df m a xa) (h1:autoParam (("dict" : Str)∈G.bl) zi._auto_1) (rT:autoParam (sc.names.lookup ("dict" : Str)=some .globalImplicit) zb._auto_1)
  (hst:autoParam (∀env:Env,starEach [xa] env=[(false,eval xa env)]) zf._auto_1) (hs:autoParam (∀env:Env,swapsWith (.Call (.Name "dict" p) [xa] [] cpos) (some (.Name x pos')) pos.line env=pure false) zf._auto_1):JS G n sc N df m (.nQ i (.cons a .nil)) (.Assign [.Name x pos'] (.Call (.Name "dict" p) [xa] [] cpos) pos):=λX g=>by
 obtain⟨j,y,z,A,B,C⟩:=gB.of h;obtain⟨F,I⟩:=g.loc A;refine PS.of (rB (i:=j) (by rw[g.nm];exact C) (by rw[g.nm];exact z) F (uh (GN g) (g.gl rT) (g.bl _ h1) (by decide +kernel) (j7 (ha X g) mj (hst _)) (by decide) (by decide) (hst _) rfl) (hs _) I) λQ s H q=>?_;obtain⟨r,J,h,fl,aj,h',f,K,e,q⟩:=q;simp only[Ev.fR,Ev.bL]at e;obtain⟨as,h3,L,M⟩:=Ev.ai e;obtain⟨d,h4,P,l⟩:=Ev.ai L;rw[Ev.ao]at l;injection l with W Y
 subst W Y;obtain⟨ps,h5,Z,OH⟩:=Ev.ai M;obtain⟨OI,DS⟩:=Ev.aF Z;subst DS;cases OH;refine⟨r,J,h,d,_,f,K,P,λv H1 o v1 b f1=>?_⟩;refine⟨o,_,d,v,ps,b,rfl,v1,OI,λhl p c=>?_⟩;exact q _ _ (o++[p]) (((f.mono f1).mono (Fm.laid c)).set B y ⟨p,rfl,by rw[<-b.len];simp⟩) (b.mw c hl) (f1.trans (Fm.laid c))
end
end Sm
namespace Pv
open Ev (D bV bR TY BI ME T E Es Eo It S Ss Fn big deep b2i rep cG eV bU bg cut cX br slots)
def nd{α:Type _}{a b:α}(h:a=b):a=b:=h
inductive V where
 |aD|bl (b:Bool)|int (i:Int)|str (s:List Nat)|tup (l:List V)|lst (l:List V)|bK (l:List V)
 |fj (kvs:List (List Nat×List Nat))
set_option genInjectivity true in
inductive Sl where
 |val (v:V)|own (l:List V)|bor (l:List V)|ro (l:List V)
 |oo (c:Ev.Cl) (l:List V)|ob (c:Ev.Cl) (l:List V)|oq (c:Ev.Cl) (l:List V)
abbrev Fr:=List (Option Sl)
set_option genInjectivity true in
inductive R(α:Type) where
 |ok (a:α) (fr:Fr)
 |bad
noncomputable def R.bind{α β:Type}(r:R α)(f:α->Fr->R β):R β:=
 match r with
 |.ok a h=>f a h
 |.bad=>.bad
@[simp] theorem ao{α β:Type}(a:α)(h:Fr)(f:α->Fr->R β):(R.ok a h).bind f=f a h:=nd rfl
@[simp] theorem FO{α β:Type}(f:α->Fr->R β):(R.bad:R α).bind f=.bad:=nd rfl
def ai{α β:Type}{r:R α}{f:α->Fr->R β}{b:β}{h:Fr}(e:r.bind f=.ok b h):∃a h1,r=.ok a h1/\f a h1=.ok b h:=by
 cases r with
 |ok a h1=>exact⟨a,h1,rfl,e⟩
 |bad=>cases e
noncomputable def R.of{α:Type}(o:Option α)(h:Fr):R α:=match o with
 |some a=>.ok a h
 |none=>.bad
@[simp] theorem cR{α:Type}(a:α)(h:Fr):R.of (some a) h=.ok a h:=nd rfl
@[simp] theorem of_none{α:Type}(h:Fr):R.of (none:Option α) h=.bad:=nd rfl
def aF{α:Type}{o:Option α}{h h':Fr}{a:α}(e:R.of o h=.ok a h'):o=some a/\h'=h:=by
 cases o with
 |none=>cases e
 |some b=>cases e;exact⟨rfl,rfl⟩
inductive Fl where
 |nx|bk|ct|ret (v:V)
mutual
noncomputable def ofD:D->Option V
 |.aD=>some .aD
 |.bl b=>some (.bl b)
 |.int i=>some (.int i)
 |.str s=>some (.str s)
 |.tup ds=>(xr ds).map .tup
 |.ref _=>none
noncomputable def xr:List D->Option (List V)
 |[]=>some []
 |d :: ds=>(ofD d).bind λv=>(xr ds).map λa=>v :: a
end
noncomputable def cU(f:V->V->Option Bool):List V->List V->Option Bool
 |[],[]=>some true
 |x :: xs,y :: ys=>(f x y).bind λb=>(cU f xs ys).bind λc=>some (b&&c)
 |_,_=>some false
noncomputable def dB:Nat->V->V->Option Bool
 |0,_,_=>none
 |_+1,.aD,.aD=>some true
 |_+1,.bl a,.bl b=>some (a==b)
 |_+1,.int a,.int b=>some (a==b)
 |_+1,.bl a,.int b=>some (b2i a==b)
 |_+1,.int a,.bl b=>some (a==b2i b)
 |_+1,.str a,.str b=>some (a==b)
 |n+1,.tup a,.tup b=>cU (dB n) a b
 |n+1,.lst a,.lst b=>cU (dB n) a b
 |n+1,.bK a,.lst b=>cU (dB n) a b
 |n+1,.lst a,.bK b=>cU (dB n) a b
 |_+1,.bK _,.bK _=>none
 |_+1,.fj _,_=>none
 |_+1,_,.fj _=>none
 |_+1,_,_=>some false
noncomputable def truthy:V->Bool
 |.aD=>false
 |.bl b=>b
 |.int i=>i != 0
 |.str s=>!s.isEmpty
 |.tup ds=>!ds.isEmpty
 |.lst ds=>!ds.isEmpty
 |.bK ds=>!ds.isEmpty
 |.fj kvs=>!kvs.isEmpty
noncomputable def dD(l:List V):Option V:=if l.length<=big then some (.lst l)else none
noncomputable def kE(l:List V):Option V:=if l.length<=big then some (.tup l)else none
noncomputable def bW:bV->V->V->Option V
 |.add,.int i,.int j=>some (.int (i+j))
 |.add,.str a,.str b=>if a.length+b.length<=big then some (.str (a++b))else none
 |.add,.tup a,.tup b=>if a.length+b.length<=big then some (.tup (a++b))else none
 |.add,.lst a,.lst b=>dD (a++b)
 |.sub,.int i,.int j=>some (.int (i - j))
 |.mul,.int i,.int j=>if cG i j then some (.int (i*j))else none
 |.mul,.str a,.int k=>if 0<=k/\k<=1000/\a.length<=1000 then some (.str (rep k.toNat a))else none
 |.mul,.tup a,.int k=>if 0<=k/\k<=1000/\a.length<=1000 then some (.tup (rep k.toNat a))else none
 |.mul,.lst a,.int k=>if 0<=k/\k<=1000/\a.length<=1000 then dD (rep k.toNat a)else none
 |.fdiv,.int i,.int j=>if 0<j/\j<1073741824 then some (.int (i / j))else none
 |.mod,.int i,.int j=>if 0<j then some (.int (i % j))else none
 |_,_,_=>none
noncomputable def mem(x:V):List V->Option Bool
 |[]=>some false
 |y :: ys=>(dB deep y x).bind λb=>(mem x ys).bind λc=>some (b ||c)
noncomputable def isin(x y:V):Option Bool:=match y with
 |.str s=>match x with
  |.str [c]=>some (s.contains c)
  |_=>none
 |.tup ds=>mem x ds
 |.lst ds=>mem x ds
 |.bK ds=>mem x ds
 |_=>none
noncomputable def cop(o:bR)(x y:V):Option Bool:=match o,x,y with
 |.eq,x,y=>dB deep x y
 |.ne,x,y=>(dB deep x y).map (!·)
 |.lt,.int i,.int j=>some (decide (i<j))
 |.gt,.int i,.int j=>some (decide (j<i))
 |.isin,x,y=>isin x y
 |.m8,x,y=>(isin x y).map (!·)
 |.zI,x,.aD=>some (match x with|.aD=>true|_=>false)
 |.lT,x,.aD=>some (match x with|.aD=>false|_=>true)
 |_,_,_=>none
noncomputable def xu:V->V->Option V
 |.fj kvs,.str k=>(Ev.tD kvs k).bind λs=>if s=[]then none else some (.str s)
 |_,_=>none
noncomputable def gj(x y:V):Option V:=match x,y with
 |.tup ds,.int i=>bU ds i
 |.str s,.int i=>(bU s i).map λc=>.str [c]
 |.lst ds,.int i=>bU ds i
 |.bK ds,.int i=>bU ds i
 |_,_=>none
noncomputable def fX(x:V)(lo hi:Option Int):Option V:=match x with
 |.tup ds=>some (.tup (cut ds lo hi))
 |.str s=>some (.str (cut s lo hi))
 |.lst ds=>dD (cut ds lo hi)
 |.bK ds=>dD (cut ds lo hi)
 |_=>none
noncomputable def toT:V->Option V
 |.tup l=>some (.tup l)
 |.lst l=>kE l
 |.bK l=>kE l
 |_=>none
noncomputable def boolsOf:List V->Option (List Bool)
 |[]=>some []
 |.bl b :: ds=>(boolsOf ds).map λr=>b :: r
 |_=>none
noncomputable def intsOf:List V->Option (List Int)
 |[]=>some []
 |.int i :: ds=>(intsOf ds).map λr=>i :: r
 |_=>none
noncomputable def strsOf:List V->Option (List (List Nat))
 |[]=>some []
 |.str s :: ds=>(strsOf ds).map λr=>s :: r
 |_=>none
noncomputable def jH:V->Option (List V)
 |.lst l=>some l
 |.bK l=>some l
 |_=>none
noncomputable def cY(b:BI)(xs:List V):Option V:=match b,xs with
 |.len,[.str s]=>if s.length<=big then some (.int s.length)else none
 |.len,[.tup ds]=>some (.int ds.length)
 |.len,[x]=>(jH x).map λds=>.int ds.length
 |.sum,[x]=>((jH x).bind intsOf).map λis=>.int is.sum
 |.min,[.int i,.int j]=>some (.int (if j<i then j else i))
 |.kU,[x]=>((jH x).bind strsOf).bind λa=>if a.length<4095/\(Ev.dd a).length<64 then dD ((br (Ev.dd a)).map .str)else none
 |.sorted,[x]=>((jH x).bind strsOf).bind λa=>if a.length<64 then dD ((br a).map .str)else none
 |_,_=>none
noncomputable def idx(x:V):List V->Nat->Option Nat
 |[],_=>none
 |y :: ys,k=>match dB deep y x with
  |some true=>some k
  |some false=>idx x ys (k+1)
  |none=>none
noncomputable def cnt(x:V):List V->Option Nat
 |[]=>some 0
 |y :: ys=>(dB deep y x).bind λb=>(cnt x ys).bind λk=>some (if b then k+1 else k)
noncomputable def eF(m:ME)(o:V)(xs:List V):Option V:=match m,o,xs with
 |.join,.str sep,[x]=>((jH x).bind strsOf).bind λa=>if (a.map (·.length)).sum+a.length*sep.length<=big then some (.str (cX sep a))else none
 |.count,o,[.str t]=>((jH o).bind (cnt (.str t))).map λ(k:Nat)=>.int k
 |.count,o,[.aD]=>((jH o).bind (cnt .aD)).map λ(k:Nat)=>.int k
 |.index,o,[x]=>((jH o).bind λds=>idx x ds 0).map λ(k:Nat)=>.int k
 |_,_,_=>none
noncomputable def lz(m:ME)(l:List V)(xs:List V):Option (V×List V):=match m,xs with
 |.append,[x]=>if l.length<big then some (.aD,l++[x])else none
 |.extend,[.lst es]=>if l.length+es.length<=big then some (.aD,l++es)else none
 |.pop,[]=>match l[l.length - 1]? with
  |some x=>some (x,l.dropLast)
  |none=>none
 |_,_=>none
noncomputable def DV:ME->Bool
 |.extend=>true
 |_=>false
noncomputable def jy:ME->Bool
 |.append=>true
 |.extend=>true
 |.pop=>true
 |_=>false
noncomputable def vh:V->Bool
 |.aD=>true
 |.bl _=>true
 |.int _=>true
 |.str _=>true
 |_=>false
noncomputable def BN(x:V):List (D×D)->Option V
 |[]=>none
 | (k,v) :: r=>match (ofD k).bind λa=>dB 1 a x with
  |some true=>ofD v
  |some false=>BN x r
  |none=>none
noncomputable def nc(x:V)(kvs:List (D×D)):Option V:=if vh x then BN x kvs else none
noncomputable def gI:V->Option (List V)
 |.tup ds=>some ds
 |.str s=>some (s.map λc=>.str [c])
 |.lst ds=>some ds
 |.bK ds=>some ds
 |_=>none
noncomputable def BO:V->Option (List V)
 |.tup ds=>some ds
 |_=>none
noncomputable def range(lo:Int)(n:Nat):List V:=(List.range n).map λ(i:Nat)=>.int (lo+i)
noncomputable def oM(hi:Int)(n:Nat):List V:=(List.range n).map λ(i:Nat)=>.int (hi - i)
noncomputable def fE:List V->Option (List V)
 |[.int j]=>if -(2 ^ 62)<=j/\j<2 ^ 62 then some (range 0 j.toNat)else none
 |[.int i,.int j]=>if -(2 ^ 62)<=i/\i<2 ^ 62/\-(2 ^ 62)<=j/\j<2 ^ 62 then some (range i (j - i).toNat)else none
 |[.int i,.int j,.int k]=>if k = -1/\-(2 ^ 62)<=i/\i<2 ^ 62/\-(2 ^ 62)<=j/\j<2 ^ 62 then some (oM i (i - j).toNat)else none
 |_=>none
noncomputable def jY:Int->List V->List V
 |_,[]=>[]
 |k,x :: xs=>.tup [.int k,x] :: jY (k+1) xs
noncomputable def put(fr:Fr)(i:Nat)(s:Sl):Option Fr:=match fr[i]? with
 |some (some (.bor _))=>none
 |some (some (.ro _))=>none
 |some (some (.ob _ _))=>none
 |some (some (.oq _ _))=>none
 |_=>some (fr.set i (some s))
noncomputable def di:List Nat->List V->Fr->Option Fr
 |[],[],fr=>some fr
 |i :: is,d :: ds,fr=>(put fr i (.val d)).bind (di is ds)
 |_,_,_=>none
noncomputable def cS:T->V->Fr->Option Fr
 |.one i,d,fr=>put fr i (.val d)
 |.many l,.tup ds,fr=>di l ds fr
 |_,_,_=>none
noncomputable def undef(t:T)(fr:Fr):Bool:=(slots t).all λi=>(fr[i]?.join).isNone
noncomputable def Sl.read:Sl->Sl
 |.own l=>.ro l
 |.bor l=>.ro l
 |.oo c l=>.oq c l
 |.ob c l=>.oq c l
 |s=>s
noncomputable def uO(fr:Fr):Fr:=fr.map (Option.map Sl.read)
noncomputable def Sl.eE:Sl->Sl
 |.own l=>.val (.lst l)
 |s=>s
noncomputable def fT(fr:Fr):Fr:=fr.map (Option.map Sl.eE)
noncomputable def tP(e:E)(fr:Fr):Fr:=match e with
 |.v j=>fr.modify j (Option.map Sl.eE)
 |_=>fr
noncomputable def Sl.walk:Sl->Sl
 |.own l=>.val (.lst l)
 |.bor l=>.ro l
 |s=>s
noncomputable def lD(is:List Nat)(fr:Fr):Fr:=is.foldl (λfr i=>match fr[i]? with
 |some (some s)=>fr.set i (some s.walk)
 |_=>fr) fr
noncomputable def Sl.out:Sl->Option (List V)
 |.bor l=>some l
 |.ro l=>some l
 |.ob _ l=>some l
 |.oq _ l=>some l
 |_=>none
noncomputable def Sl.lend:Sl->Option Sl
 |.own l=>some (.bor l)
 |.bor l=>some (.bor l)
 |.ro l=>some (.ro l)
 |.oo c l=>some (.ob c l)
 |.ob c l=>some (.ob c l)
 |.oq c l=>some (.oq c l)
 |.val _=>none
noncomputable def lent(fr:Fr)(i:Nat):Option Sl:=match fr[i]? with
 |some (some s)=>s.lend
 |_=>none
noncomputable def Sl.with:Sl->List V->Sl
 |.own _,l=>.own l
 |.bor _,l=>.bor l
 |.oo c _,l=>.oo c l
 |.ob c _,l=>.ob c l
 |s,_=>s
noncomputable def back:List Nat->List (List V)->Fr->Option Fr
 |[],[],fr=>some fr
 |i :: is,l :: ls,fr=>match fr[i]? with
  |some (some s)=>back is ls (fr.set i (some (s.with l)))
  |_=>none
 |_,_,_=>none
noncomputable def cZ(f:V->Option (Option V)):List V->Option (List V)
 |[]=>some []
 |d :: ds=>(f d).bind λo=>(cZ f ds).bind λr=>some (o.toList++r)
noncomputable def forL(f:V->Fr->R Fl):List V->Fr->R Fl
 |[],fr=>.ok .nx fr
 |d :: ds,fr=>(f d fr).bind λp a=>match p with
   |.nx=>forL f ds a
   |.ct=>forL f ds a
   |.bk=>.ok .nx a
   |.ret x=>.ok (.ret x) a
noncomputable def eO(t:Fr->R Bool)(f:Fr->R Fl):Nat->Fr->R Fl
 |0,_=>.bad
 |n+1,fr=>(t fr).bind λb c=>if b then (f c).bind λp a=>match p with
   |.nx=>eO t f n a
   |.ct=>eO t f n a
   |.bk=>.ok .nx a
   |.ret x=>.ok (.ret x) a
  else .ok .nx c
noncomputable def jE:Es->List Nat
 |.nil=>[]
 |.cons (.v i) a=>i :: jE a
 |.cons _ a=>jE a
noncomputable def II(m:ME):E->List Nat
 |.v i=>if jy m then [i]else []
 |_=>[]
mutual
noncomputable def aM:E->List Nat
 |.c _=>[]|.v _=>[]|.tup d=>cW d|.lst d=>cW d
 |.bin _ a b=>aM a++aM b|.cmp _ a b=>aM a++aM b
 |.nt a=>aM a|.neg a=>aM a|.an a b=>aM a++aM b|.orr a b=>aM a++aM b|.fW t a b=>aM t++(aM a++aM b)
 |.ix a b=>aM a++aM b|.sl a lo hi=>aM a++(iY lo++iY hi)
 |.cl _ d=>cW d++jE d|.bi _ d=>cW d|.me m o d=>aM o++(cW d++II m o)
 |.comp _ _ e _=>xw e
 |.jF e=>xw e
 |.nN _=>[]|.nP a k=>aM a++aM k
 |.fu _ _ _ _ d=>cW d|.fm _ _ i _ d=>cW d++[i]
 |.jT a=>aM a
noncomputable def cW:Es->List Nat
 |.nil=>[]
 |.cons e a=>aM e++cW a
noncomputable def iY:Eo->List Nat
 |.no=>[]
 |.yes e=>aM e
noncomputable def xw:It->List Nat
 |.seq e=>aM e|.jh es=>cW es
 |.rev a=>aM a
 |.qq _ _=>[]
end
noncomputable def kf(a:E)(l:List Nat):Bool:=match a with
 |.v i=>!l.contains i
 |_=>l.isEmpty
noncomputable def itv:It->List Nat
 |.seq (.v i)=>[i]
 |.rev (.v i)=>[i]
 |_=>[]
abbrev aS:=Nat->List Sl->Option (V×List (List V))
noncomputable def intOf:V->Option Int
 |.int i=>some i
 |_=>none
noncomputable def kF(k:Bool)(fr:Fr)(i:Nat):Option V:=match fr[i]? with
 |some (some (.val v))=>some v
 |some (some (.own l))=>if k then some (.lst l)else none
 |some (some (.bor l))=>if k then some (.lst l)else none
 |some (some (.ro l))=>if k then some (.lst l)else none
 |_=>none
noncomputable def BP(k:Bool)(fr:Fr)(i:Nat):Option V:=match fr[i]? with
 |some (some (.ro l))=>some (.lst l)
 |_=>kF k fr i
noncomputable def src(k:Bool)(fr:Fr)(e:E)(r:R V):R V:=match e with
 |.v i=>R.of (BP k fr i) fr
 |_=>r
noncomputable def mE(fr:Fr):E->Option Nat
 |.v i=>if (lent fr i).isSome then some i else none
 |_=>none
noncomputable def args(fr:Fr):List (Nat ⊕ V)->Option (List Sl)
 |[]=>some []
 |.inl i :: r=>(lent fr i).bind λs=>(args fr r).map λl=>s :: l
 |.inr v :: r=>(args fr r).map λl=>.val v :: l
noncomputable def b6:List (Nat ⊕ V)->List Nat
 |[]=>[]
 |.inl i :: r=>i :: b6 r
 |.inr _ :: r=>b6 r
noncomputable def gM(P:aS)(f:Nat)(as:List (Nat ⊕ V))(fr:Fr):R V:=
 if (b6 as).Nodup then match args fr as with
  |some a=>match P f a with
   |some (v,outs)=>R.of ((back (b6 as) outs fr).map λb=>(v,b)) fr |>.bind λp _=>.ok p.1 p.2
   |none=>.bad
  |none=>.bad
 else .bad
noncomputable def kG(c:Ev.Cl):Option (Option Sl)->Option (List V)
 |some (some (.oo c' l))=>if c'=c then some l else none
 |some (some (.ob c' l))=>if c'=c then some l else none
 |some (some (.oq c' l))=>if c'=c then some l else none
 |_=>none
noncomputable def Am(c:Ev.Cl):Option (Option Sl)->Option (Sl×List V)
 |some (some (.oo c' l))=>if c'=c then some (.oo c l,l)else none
 |some (some (.ob c' l))=>if c'=c then some (.ob c l,l)else none
 |_=>none
noncomputable def xx(c:Ev.Cl)(l:List V)(k:Nat):Option (List V):=if c.nv<=k/\k<c.nl then (match l[k]? with
  |some (.tup es)=>some es
  |_=>none)else none
noncomputable def dX(p:List Nat×Int):V:=.tup [.str p.1,.int p.2]
noncomputable def gc:List V->Option (List (List Nat×Int))
 |[]=>some []
 |.tup [.str k,.int v] :: ds=>(gc ds).map λr=>(k,v) :: r
 |_=>none
noncomputable def BQ:List V->Option (List (List Nat×Int))
 |.aD :: ds=>gc ds
 |ds=>gc ds
noncomputable def GO:List V->Option (List (List Nat×Int))
 |.aD :: ds=>gc ds
 |_=>none
noncomputable def IJ(as:List V):Option (List (List Nat×Int)):=match as with
 |[]=>some []
 |[.lst l]=>(gc l).bind λps=>if ps.length<=100000 then some (Ev.mw ps)else none
 |_=>none
noncomputable def IK(o:Ev.FU)(es as:List V):Option V:=match o,as with
 |.len,[]=>some (.int es.length)
 |.CT,[.int j]=>dD (cut es (some j) none)
 |.oJ,[.str k]=>((BQ es).bind λps=>Ev.cV ps k).map .int
 |.qI,[.str k]=>(gc es).map λps=>.int ((Ev.cV ps k).getD 0)
 |.tB,[]=>(BQ es).bind λps=>if ps.length<64 then dD ((Ev.br (ps.map (·.1))).map .str)else none
 |_,_=>none
noncomputable def IL(o:Ev.FM)(es as:List V):Option (V×List V):=match o,as with
 |.app,[x]=>if es.length<big then some (.aD,es++[x])else none
 |.qJ,[]=>(gc es).map λ_=>(.aD,.aD :: es)
 |.dput,[.str k,.int v]=>if es.length<100000 then (gc es).map λps=>(.aD,(Ev.fJ ps k v).map dX)else none
 |_,_=>none
mutual
noncomputable def ev(P:aS):Bool->E->Fr->R V
 |_,.c d,fr=>R.of (ofD d) fr
 |k,.v i,fr=>R.of (kF k fr i) fr
 |_,.tup es,fr=>(bL P false es fr).bind λds e=>R.of (kE ds) e
 |_,.lst es,fr=>(bL P false es fr).bind λds e=>R.of (dD ds) e
 |_,.bin o a b,fr=>(ev P (kf a (aM b)) a fr).bind λx e=>(ev P true b e).bind λy g=>R.of (bW o x y) g
 |_,.cmp o a b,fr=>(ev P (kf a (aM b)) a fr).bind λx e=>(ev P true b e).bind λy g=>R.of ((cop o x y).map .bl) g
 |_,.nN kvs,fr=>if kvs=[]then .bad else .ok (.fj kvs) fr
 |_,.nP a b,fr=>(ev P (kf a (aM b)) a fr).bind λx e=>(ev P true b e).bind λy g=>R.of (xu x y) g
 |_,.nt a,fr=>(ev P true a fr).bind λx e=>match x with
   |.bl b=>.ok (.bl (!b)) e
   |_=>.bad
 |_,.neg a,fr=>(ev P true a fr).bind λx e=>match x with
   |.int i=>.ok (.int (-i)) e
   |_=>.bad
 |k,.an a b,fr=>(ev P true a fr).bind λx e=>match x with
   |.bl true=>ev P k b e
   |.bl false=>.ok (.bl false) e
   |_=>.bad
 |k,.orr a b,fr=>(ev P true a fr).bind λx e=>match x with
   |.bl true=>.ok (.bl true) e
   |.bl false=>ev P k b e
   |_=>.bad
 |k,.fW t a b,fr=>(aN P t fr).bind λc e=>if c then ev P k a e else ev P k b e
 |_,.ix a b,fr=>(ev P (kf a (aM b)) a fr).bind λx e=>(ev P true b e).bind λy g=>R.of (gj x y) g
 |_,.sl a lo hi,fr=>(ev P (kf a (iY lo++iY hi)) a fr).bind λx e=>(gk P lo e).bind λl g=>(gk P hi g).bind λu q=>R.of (fX x l u) q
 |_,.cl f es,fr=>(gm P es fr).bind λh e=>gM P f h e
 |_,.bi b es,fr=>(bL P true es fr).bind λds e=>R.of (cY b ds) e
 |_,.me m o es,fr=>if jy m then match mE fr o with
   |some i=>(bL P (DV m) es fr).bind λds e=>match e[i]? with
    |some (some (.own l))=>match lz m l ds with
     |some (v,l')=>.ok v (e.set i (some (.own l')))
     |none=>.bad
    |some (some (.bor l))=>match lz m l ds with
     |some (v,l')=>.ok v (e.set i (some (.bor l')))
     |none=>.bad
    |_=>.bad
   |none=>.bad
  else (ev P (kf o (cW es)) o fr).bind λx e=>(bL P true es e).bind λds g=>R.of (eF m x ds) g
 |_,.comp elt t it cond,fr=>(dj P true it fr).bind λs e=>if undef t e then
   R.of ((cZ (λd=>match cS t d (uO e)with
    |none=>none
    |some g=>match iT P cond g with
     |.ok c _=>if c then (match ev P false elt g with|.ok x _=>some (some x)|.bad=>none)else some none
     |.bad=>none) s).bind dD) e else .bad
 |_,.jF it,fr=>(dj P true it fr).bind λs e=>R.of (dD s) e
 |_,.jT a,fr=>(ev P true a fr).bind λx e=>R.of (toT x) e
 |_,.fu c o i k es,fr=>if (kG c fr[i]?).isSome then (bL P true es fr).bind λh e=>match kG c e[i]? with
   |some l=>R.of ((xx c l k).bind λj=>IK o j h) e
   |none=>.bad
  else .bad
 |_,.fm c o i k es,fr=>if (kG c fr[i]?).isSome then (bL P false es fr).bind λh e=>match Am c e[i]? with
   |some (s,l)=>(R.of ((xx c l k).bind λj=>IL o j h) e).bind λp g=>.ok p.1 (g.set i (some (s.with (l.set k (.tup p.2)))))
   |none=>.bad
  else .bad
termination_by _ e=>(sizeOf e,0)
noncomputable def bL(P:aS):Bool->Es->Fr->R (List V)
 |_,.nil,fr=>.ok [] fr
 |k,.cons e es,fr=>(ev P (k&&kf e (cW es)) e fr).bind λd a=>(bL P k es a).bind λds b=>.ok (d :: ds) b
termination_by _ e=>(sizeOf e,0)
noncomputable def gm(P:aS):Es->Fr->R (List (Nat ⊕ V))
 |.nil,fr=>.ok [] fr
 |.cons e es,fr=>match mE fr e with
   |some i=>(gm P es fr).bind λr a=>.ok (.inl i :: r) a
   |none=>(ev P false e fr).bind λd a=>(gm P es a).bind λr b=>.ok (.inr d :: r) b
termination_by e=>(sizeOf e,0)
noncomputable def gk(P:aS):Eo->Fr->R (Option Int)
 |.no,fr=>.ok none fr
 |.yes e,fr=>(ev P true e fr).bind λd a=>R.of ((intOf d).map some) a
termination_by e=>(sizeOf e,0)
noncomputable def iT(P:aS):Eo->Fr->R Bool
 |.no,fr=>.ok true fr
 |.yes e,fr=>aN P e fr
termination_by e=>(sizeOf e,0)
noncomputable def aN(P:aS):E->Fr->R Bool
 |.an a b,fr=>(aN P a fr).bind λk c=>if k then aN P b c else .ok false c
 |.orr a b,fr=>(aN P a fr).bind λk c=>if k then .ok true c else aN P b c
 |.nt a,fr=>(aN P a fr).bind λk c=>.ok (!k) c
 |e,fr=>(ev P true e fr).bind λx c=>.ok (truthy x) c
termination_by e=>(sizeOf e,1)
noncomputable def dj(P:aS):Bool->It->Fr->R (List V)
 |k,.seq e,fr=>(src k fr e (ev P k e fr)).bind λx b=>R.of (gI x) b
 |_,.jh es,fr=>(bL P true es fr).bind λds b=>R.of (fE ds) b
 |_,.rev a,fr=>(ev P true a fr).bind λx b=>R.of ((BO x).map λs=>s.reverse) b
 |k,.qq c i,fr=>if k then (match kG c fr[i]? with
  |some l=>R.of (((xx c l 0).bind GO).map λps=>ps.map λp=>.str p.1) fr
  |none=>.bad)else .bad
termination_by _ e=>(sizeOf e,0)
end
noncomputable def isNew:E->Bool
 |.lst _=>true
 |.jF _=>true
 |_=>false
mutual
noncomputable def ex(P:aS)(w:Nat):S->Fr->R Fl
 |.set i e,fr=>(ev P false e (tP e fr)).bind λx c=>if isNew e then (match x with
   |.lst l=>(R.of (put c i (.own l)) c).bind λf _=>.ok .nx f
   |_=>.bad)
  else (R.of (put c i (.val x)) c).bind λf _=>.ok .nx f
 |.exp e,fr=>(ev P true e fr).bind λ_ c=>.ok .nx c
 |.ret e,fr=>(ev P false e (fT fr)).bind λx c=>.ok (.ret x) c
 |.iff t a b,fr=>(aN P t fr).bind λk c=>if k then exs P w a c else exs P w b c
 |.for t it b,fr=>(dj P false it (lD (itv it) fr)).bind λs c=>forL (λd f=>match cS t d f with
   |some g=>exs P w b g
   |none=>.bad) s c
 |.qt t b,fr=>eO (λf=>aN P t f) (λf=>exs P w b f) w fr
 |.pass,fr=>.ok .nx fr
 |.brk,fr=>.ok .bk fr
 |.cnt,fr=>.ok .ct fr
 |.gp _,_=>.bad
 |.nQ i es,fr=>(bL P false es fr).bind λh c=>(R.of (IJ h) c).bind λps f=>(R.of (put f i (.oo Ev.cD [.tup (ps.map dX)])) f).bind λg _=>.ok .nx g
noncomputable def exs(P:aS)(w:Nat):Ss->Fr->R Fl
 |.nil,fr=>.ok .nx fr
 |.cons s ss,fr=>(ex P w s fr).bind λp a=>match p with
   |.nx=>exs P w ss a
   |p=>.ok p a
end
noncomputable def eU(fn:Fn)(ds:List Sl):Fr:=ds.map some++List.replicate (fn.ns - fn.np) none
noncomputable def outs(np:Nat)(fr:Fr):List (List V):=(fr.take np).filterMap λo=>o.bind Sl.out
noncomputable def OQ(_:Fn)(_:List Sl):Option (V×List (List V)):=none
noncomputable def run(F:List Fn)(w:Nat):Nat->aS
 |0,_,_=>none
 |n+1,f,ds=>match F[f]? with
  |some a=>if ds.length=a.np then match exs (run F w n) w a.body (eU a ds)with
    |.ok (.ret v) fr=>some (v,outs a.np fr)
    |.ok .nx fr=>some (.aD,outs a.np fr)
    |_=>OQ a ds
   else none
  |none=>none
def rP(F:List Fn)(w n f:Nat)(ds:List Sl):run F w (n+1) f ds=match F[f]? with
  |some a=>if ds.length=a.np then match exs (run F w n) w a.body (eU a ds)with
    |.ok (.ret v) fr=>some (v,outs a.np fr)
    |.ok .nx fr=>some (.aD,outs a.np fr)
    |_=>OQ a ds
   else none
  |none=>none:=nd rfl
end Pv
namespace Pv
open Ev (D O Hh bV bR TY BI ME T E Es Eo It S Ss Fn big deep b2i rep cG eV bU bg cut cX br slots bO)
section
variable(h:Hh)(S:Nat->Prop)
mutual
def Rep:V->D->Prop
 |.aD,d=>d=.aD
 |.bl b,d=>d=.bl b
 |.int i,d=>d=.int i
 |.str s,d=>d=.str s
 |.tup l,d=>∃ds,d=.tup ds/\ak l ds
 |.lst l,d=>∃n ds,d=.ref n/\S n/\h[n]?=some (.lst ds)/\ak l ds
 |.bK l,d=>∃n ds,d=.ref n/\S n/\h[n]?=some (.bK ds)/\ak l ds
 |.fj kvs,d=>∃n,d=.ref n/\S n/\h[n]?=some (.fj kvs)
def ak:List V->List D->Prop
 |[],ds=>ds=[]
 |v :: vs,ds=>∃d es,ds=d :: es/\Rep v d/\ak vs es
end
def bA:V->D->Prop
 |.lst l,d=>∃n ds,d=.ref n/\h[n]?=some (.lst ds)/\ak h S l ds
 |v,d=>Rep h S v d
def eZ:List V->List D->Prop
 |[],ds=>ds=[]
 |v :: vs,ds=>∃d es,ds=d :: es/\bA h S v d/\eZ vs es
end
abbrev U:Nat->Prop:=λ_=>True
section
variable{h h':Hh}{S S':Nat->Prop}
mutual
theorem Rep.mono(f:∀m,S m->h'[m]?=h[m]?)(g:∀m,S m->S' m):∀{v:V}{d:D},Rep h S v d->Rep h' S' v d
 |.aD,_,q=>q
 |.bl _,_,q=>q
 |.int _,_,q=>q
 |.str _,_,q=>q
 |.tup l,_,⟨ds,a,b⟩=>⟨ds,a,ak.mono f g b⟩
 |.lst l,_,⟨n,ds,a,b,c,e⟩=>⟨n,ds,a,g n b,by rw[f n b];exact c,ak.mono f g e⟩
 |.bK l,_,⟨n,ds,a,b,c,e⟩=>⟨n,ds,a,g n b,by rw[f n b];exact c,ak.mono f g e⟩
 |.fj kvs,_,⟨n,a,b,c⟩=>⟨n,a,g n b,by rw[f n b];exact c⟩
theorem ak.mono(f:∀m,S m->h'[m]?=h[m]?)(g:∀m,S m->S' m):∀{v:List V}{d:List D},ak h S v d->ak h' S' v d
 |[],_,q=>q
 |_ :: _,_,⟨d,es,a,b,c⟩=>⟨d,es,a,Rep.mono f g b,ak.mono f g c⟩
end
def ak.nil:ak h S [] []:=by simp[ak]
def ak.cons{v:V}{d:D}{vs:List V}{ds:List D}(a:Rep h S v d)(b:ak h S vs ds):ak h S (v :: vs) (d :: ds):=by simp only[ak];exact⟨d,ds,rfl,a,b⟩
def Rep.top{v:V}{d:D}(q:Rep h S v d):bA h S v d:=by
 cases v<;>first|exact q | (obtain⟨n,ds,a,b,c,e⟩:=q;exact⟨n,ds,a,c,e⟩)
def bA.u{v:V}{d:D}(q:bA h S v d):Rep h U v d:=by
 cases v with
 |lst l=>obtain⟨n,ds,a,b,c⟩:=q;exact⟨n,ds,a,trivial,b,c.mono (λ_ _=>rfl) λ_ _=>trivial⟩
 |_=>exact Rep.mono (S:=S) (λ_ _=>rfl) (λ_ _=>trivial) q
def ak.u{v:List V}{d:List D}(q:ak h S v d):ak h U v d:=q.mono (λ_ _=>rfl) λ_ _=>trivial
theorem bA.mono{v:V}{d:D}(f:∀m,m<h.length->h'[m]?=h[m]?)(k:∀m,S m->m<h.length)(g:∀m,S m->S' m)(q:bA h S v d):bA h' S' v d:=by
 cases v with
 |lst l=>
  obtain⟨n,ds,a,b,c⟩:=q;exact⟨n,ds,a,by rw[f n (List.getElem?_eq_some_iff.mp b).1];exact b,c.mono (λm z=>f m (k m z)) g⟩
 |_=>exact Rep.mono (λm z=>f m (k m z)) g q
theorem ak.length:∀{v:List V}{d:List D},ak h S v d->v.length=d.length
 |[],_,q=>by simp only[ak]at q;subst q;rfl
 |_ :: _,_,q=>by simp only[ak]at q;obtain⟨d,a,rfl,_,c⟩:=q;simp[c.length]
theorem ak.get:∀{v:List V}{d:List D}{i:Nat}{x:V},ak h S v d->v[i]?=some x->∃y,d[i]?=some y/\Rep h S x y
 |[],_,_,_,_,e=>by simp at e
 |_ :: _,_,0,_,q,e=>by
  simp only[ak]at q;obtain⟨d,f,rfl,b,_⟩:=q;simp at e;subst e;exact⟨d,by simp,b⟩
 |_ :: _,_,i+1,_,q,e=>by
  simp only[ak]at q;obtain⟨d,f,rfl,_,c⟩:=q;obtain⟨y,a,b⟩:=c.get (i:=i) (by simpa using e);exact⟨y,by simpa using a,b⟩
theorem ak.append:∀{v w:List V}{d e:List D},ak h S v d->ak h S w e->ak h S (v++w) (d++e)
 |[],_,_,_,a,b=>by simp only[ak]at a;subst a;simpa using b
 |_ :: _,_,_,_,a,b=>by
  simp only[ak]at a;obtain⟨d,c,rfl,x,y⟩:=a;exact .cons x (y.append b)
theorem ak.take:∀{v:List V}{d:List D}(n:Nat),ak h S v d->ak h S (v.take n) (d.take n)
 |_,_,0,_=>by simp[ak]
 |[],_,_+1,a=>by simp only[ak]at a;subst a;simp[ak]
 |_ :: _,_,n+1,a=>by
  simp only[ak]at a;obtain⟨d,b,rfl,x,y⟩:=a;simp only[aaG];exact .cons x (y.take n)
theorem ak.drop:∀{v:List V}{d:List D}(n:Nat),ak h S v d->ak h S (v.drop n) (d.drop n)
 |_,_,0,a=>by simpa using a
 |[],_,_+1,a=>by simp only[ak]at a;subst a;simp[ak]
 |_ :: _,_,n+1,a=>by
  simp only[ak]at a;obtain⟨d,b,rfl,x,y⟩:=a;simp only[abp];exact y.drop n
theorem ak.set:∀{v:List V}{d:List D}(j:Nat) {x:V}{y:D},ak h S v d->Rep h S x y->ak h S (v.set j x) (d.set j y)
 |[],_,_,_,_,a,_=>by simp only[ak]at a;subst a;simp[ak]
 |_ :: _,_,0,_,_,a,b=>by
  simp only[ak]at a;obtain⟨d,c,rfl,x,y⟩:=a;exact .cons b y
 |_ :: _,_,j+1,_,_,a,b=>by
  simp only[ak]at a;obtain⟨d,c,rfl,x,y⟩:=a;exact .cons x (y.set j b)
theorem ak.dropLast:∀{v:List V}{d:List D},ak h S v d->ak h S v.dropLast d.dropLast:=λ{v d} a=>by
 rw[aa2,aa2,a.length];exact a.take _
theorem ak.reverse:∀{v:List V}{d:List D},ak h S v d->ak h S v.reverse d.reverse
 |[],_,a=>by simp only[ak]at a;subst a;simp[ak]
 |_ :: _,_,a=>by
  simp only[ak]at a;obtain⟨d,b,rfl,x,y⟩:=a;simp only[aaw];exact y.reverse.append (.cons x .nil)
theorem ak.rep{v:List V}{d:List D}(a:ak h S v d):∀k:Nat,ak h S (Ev.rep k v) (Ev.rep k d)
 |0=>by simp[Ev.rep,ak]
 |k+1=>by
  have z:=ak.rep a k;simp only[Ev.rep,aak,abg]at z ⊢;exact a.append z
theorem ak.cut{v:List V}{d:List D}(a:ak h S v d)(lo hi:Option Int):ak h S (Ev.cut v lo hi) (Ev.cut d lo hi):=by
 unfold Ev.cut;rw[a.length];exact(a.drop _).take _
theorem ak.map{α:Type}{f:α->V}{g:α->D}(q:∀a,Rep h S (f a) (g a)):∀l:List α,ak h S (l.map f) (l.map g)
 |[]=>.nil
 |_ :: l=>.cons (q _) (ak.map q l)
mutual
theorem Rep.uniq:∀{v w:V}{d:D},Rep h U v d->Rep h U w d->v=w
 |.aD,w,_,a,b=>by simp only[Rep]at a;subst a;cases w<;>simp[Rep]at b<;>rfl
 |.bl _,w,_,a,b=>by simp only[Rep]at a;subst a;cases w<;>simp[Rep]at b<;>rw[b]
 |.int _,w,_,a,b=>by simp only[Rep]at a;subst a;cases w<;>simp[Rep]at b<;>rw[b]
 |.str _,w,_,a,b=>by simp only[Rep]at a;subst a;cases w<;>simp[Rep]at b<;>rw[b]
 |.tup l,w,_,a,b=>by
  simp only[Rep]at a;obtain⟨ds,rfl,a⟩:=a;cases w<;>simp[Rep]at b
  rw[ak.uniq a b]
 |.lst l,w,_,a,b=>by
  simp only[Rep]at a;obtain⟨n,ds,rfl,_,e,a⟩:=a;cases w<;>simp[Rep]at b
  .obtain⟨f,c,b⟩:=b;rw[e]at c;cases c;rw[ak.uniq a b]
  .obtain⟨f,c,b⟩:=b;rw[e]at c;cases c
  .rw[e]at b;cases b
 |.bK l,w,_,a,b=>by
  simp only[Rep]at a;obtain⟨n,ds,rfl,_,e,a⟩:=a;cases w<;>simp[Rep]at b
  .obtain⟨f,c,b⟩:=b;rw[e]at c;cases c
  .obtain⟨f,c,b⟩:=b;rw[e]at c;cases c;rw[ak.uniq a b]
  .rw[e]at b;cases b
 |.fj kvs,w,_,a,b=>by
  simp only[Rep]at a;obtain⟨n,rfl,_,e⟩:=a;cases w<;>simp[Rep]at b
  .obtain⟨f,c,b⟩:=b;rw[e]at c;cases c
  .obtain⟨f,c,b⟩:=b;rw[e]at c;cases c
  .rw[e]at b;cases b;rfl
theorem ak.uniq:∀{v w:List V}{d:List D},ak h U v d->ak h U w d->v=w
 |[],w,_,a,b=>by simp only[ak]at a;subst a;cases w<;>simp[ak]at b;rfl
 |x :: xs,w,_,a,b=>by
  simp only[ak]at a;obtain⟨d,l,rfl,c,f⟩:=a;cases w<;>simp only[ak]at b
  .cases b
  obtain⟨o,g,e,i,j⟩:=b;cases e;rw[Rep.uniq c i,ak.uniq f j]
end
theorem xy{n:Nat}(f:∀v b,dB n v v=some b->b=true):∀l b,cU (dB n) l l=some b->b=true
 |[],b,e=>by simp[cU]at e;exact e
 |x :: xs,b,e=>by
  simp only[cU,aah]at e;obtain⟨c,a,d,g,e⟩:=e;rw[f x c a,xy f xs d g]at e;simpa using e.symm
theorem xA:∀n v b,dB n v v=some b->b=true
 |0,_,_,e=>by cases e
 |n+1,v,b,e=>by
  cases v<;>first|exact xy (xA n) _ _ e | (cases e<;>first|rfl|exact beq_self_eq_true _)
theorem xB{n:Nat}(f:∀{v w:V}{d e:D}{b},dB n v w=some b->Rep h U v d->Rep h U w e->Ev.dW h n d e=some b):∀{l m:List V}{ds es:List D}{b},cU (dB n) l m=some b->ak h U l ds->ak h U m es->Ev.cU (Ev.dW h n) ds es=some b
 |[],[],_,_,b,e,p,q=>by simp only[ak]at p q;subst p q;simpa[cU,Ev.cU]using e
 |[],_ :: _,_,_,b,e,p,q=>by simp only[ak]at p q;subst p;obtain⟨_,_,rfl,_⟩:=q;simpa[cU,Ev.cU]using e
 |_ :: _,[],_,_,b,e,p,q=>by simp only[ak]at p q;subst q;obtain⟨_,_,rfl,_⟩:=p;simpa[cU,Ev.cU]using e
 |x :: xs,y :: ys,_,_,b,e,p,q=>by
  simp only[ak]at p q;obtain⟨d,ds,rfl,a,g⟩:=p;obtain⟨A,i,rfl,j,o⟩:=q;simp only[cU,aah]at e;obtain⟨c,r,B,z,e⟩:=e;simp[Ev.cU,f r a j,xB f z g o];simpa using e
def iZ{n:Nat}{ds:List D}(q:h[n]?=some (.lst ds)):bO h n=some ds:=by simp[bO,q]
def jl{n:Nat}{ds:List D}(q:h[n]?=some (.bK ds)):bO h n=some ds:=by simp[bO,q]
theorem ja:∀(n:Nat) {v w:V}{d e:D}{b},dB n v w=some b->Rep h U v d->Rep h U w e->Ev.dW h n d e=some b
  |0,_,_,_,_,_,e,_,_=>by cases e
  |n+1,v,w,d,e,b,x,p,q=>by
    by_cases o:∃m,d=.ref m/\e=.ref m
    . obtain⟨m,rfl,rfl⟩:=o;have j:=p.uniq q;subst j;have r:=xA _ _ _ x;subst r;cases v<;>simp[Rep]at p
      . obtain⟨ds,f,y⟩:=p;show Ev.kq _ _ _ _=_;rw[Ev.kq,LV rfl,iZ f];rfl
      . obtain⟨ds,f,y⟩:=p;show Ev.kq _ _ _ _=_;rw[Ev.kq,LV rfl,jl f];rfl
      . cases x
    . cases v<;>cases w<;>simp only[Rep]at p q <;>
      first
      | (subst p;subst q;exact x)
      | (obtain⟨ds,rfl,p⟩:=p;subst q;exact x)
      | (obtain⟨ds,rfl,q⟩:=q;subst p;exact x)
      | (obtain⟨ds,rfl,p⟩:=p;obtain⟨i,rfl,q⟩:=q;exact xB (λa b c=>ja n a b c) x p q)
      | (cases x;done)
      | (obtain⟨m,ds,rfl,_,f,p⟩:=p;obtain⟨k,i,rfl,_,g,q⟩:=q
         have l:m≠k:=λz=>o ⟨m,rfl,by rw[z]⟩;show Ev.kq _ _ _ _=_;rw[Ev.kq,aaj l,f,g];exact xB (λa b c=>ja n a b c) x p q)
      | (cases x;obtain⟨m,ds,rfl,_,f,p⟩:=p;subst q;exact aau (Option.map λ_=>false) (iZ f))
      | (cases x;obtain⟨m,ds,rfl,_,f,p⟩:=p;subst q;exact aau (Option.map λ_=>false) (jl f))
      | (cases x;obtain⟨m,ds,rfl,_,f,p⟩:=p;obtain⟨i,rfl,q⟩:=q;exact aau (Option.map λ_=>false) (iZ f))
      | (cases x;obtain⟨m,ds,rfl,_,f,p⟩:=p;obtain⟨i,rfl,q⟩:=q;exact aau (Option.map λ_=>false) (jl f))
      | (cases x;obtain⟨m,ds,rfl,_,g,q⟩:=q;subst p;exact aau (Option.map λ_=>false) (iZ g))
      | (cases x;obtain⟨m,ds,rfl,_,g,q⟩:=q;subst p;exact aau (Option.map λ_=>false) (jl g))
      | (cases x;obtain⟨m,ds,rfl,_,g,q⟩:=q;obtain⟨i,rfl,p⟩:=p;exact aau (Option.map λ_=>false) (iZ g))
      | (cases x;obtain⟨m,ds,rfl,_,g,q⟩:=q;obtain⟨i,rfl,p⟩:=p;exact aau (Option.map λ_=>false) (jl g))
end
structure Al(h:Hh)(S:Nat->Prop)(h':Hh)(S':Nat->Prop):Prop where
 len:h.length<=h'.length
 keep:∀m,m<h.length->h'[m]?=h[m]?
 sub:∀m,S m->S' m
 new:∀m,S' m->S m\/(h.length<=m/\m<h'.length)
section
variable{h h':Hh}{S S':Nat->Prop}
def Al.refl:Al h S h S:=⟨aae _,λ_ _=>rfl,λ_ q=>q,λ_ q=>.inl q⟩
def Al.snoc(o:O):Al h S (h++[o]) (λm=>S m\/m=h.length) where
 len:=by simp
 keep:=λm q=>by rw[yy q]
 sub:=λ_ q=>.inl q
 new:=λm q=>by
  rcases q with q|q
  .exact .inl q
  .subst q;exact .inr ⟨aae _,by simp⟩
def gx{l:List V}{v:V}{ds:List D}(w:∀m,S m->m<h.length)(e:dD l=some v)(q:ak h S l ds):∃r h' S',Ev.alloc ds h=.ok r h'/\Rep h' S' v r/\Al h S h' S':=by
 unfold dD at e;split at e
 .rename_i z;cases e;refine⟨.ref h.length,h++[.lst ds],λm=>S m\/m=h.length,by unfold Ev.alloc;rw[LV (by rw[<-q.length];exact z)],?_,Al.snoc _⟩;simp only[Rep];refine⟨h.length,ds,rfl,.inr rfl,by simp,q.mono (λm z=>?_) λ_ z=>.inl z⟩;rw[yy (w m z)]
 .cases e
def fY{v:V}{l:List V}{d:D}(e:jH v=some l)(q:bA h S v d):∃n ds,d=.ref n/\bO h n=some ds/\ak h S l ds:=by
 cases v<;>simp[jH]at e
 .subst e;simp only[bA]at q;obtain⟨n,ds,rfl,a,b⟩:=q;exact⟨n,ds,rfl,iZ a,b⟩
 .subst e;simp only[bA,Rep]at q;obtain⟨n,ds,rfl,_,a,b⟩:=q;exact⟨n,ds,rfl,jl a,b⟩
mutual
theorem oY:∀{d:D}{v:V},ofD d=some v->Rep h S v d
 |.aD,_,e=>by simp[ofD]at e;subst e;simp[Rep]
 |.bl _,_,e=>by simp[ofD]at e;subst e;simp[Rep]
 |.int _,_,e=>by simp[ofD]at e;subst e;simp[Rep]
 |.str _,_,e=>by simp[ofD]at e;subst e;simp[Rep]
 |.ref _,_,e=>by simp[ofD]at e
 |.tup ds,_,e=>by
  simp[ofD]at e;obtain⟨a,e,rfl⟩:=e;exact⟨ds,rfl,Ao e⟩
theorem Ao:∀{d:List D}{v:List V},xr d=some v->ak h S v d
 |[],_,e=>by simp[xr]at e;subst e;exact .nil
 |d :: ds,_,e=>by
  simp only[xr,aah,aab]at e;obtain⟨v,a,c,b,rfl⟩:=e;exact .cons (oY a) (Ao b)
end
def ak.emp{l:List V}{ds:List D}(q:ak h S l ds):ds.isEmpty=l.isEmpty:=by
 have:=q.length;cases l<;>cases ds<;>simp at this ⊢
def DW{v:V}{d:D}(q:bA h S v d):Ev.truthy h d=some (truthy v):=by
 cases v<;>simp only[bA,Rep]at q
 .subst q;rfl
 .subst q;rfl
 .subst q;rfl
 .subst q;rfl
 .obtain⟨ds,rfl,q⟩:=q;simp only[Ev.truthy,truthy,q.emp]
 .obtain⟨n,ds,rfl,a,q⟩:=q;simp only[Ev.truthy,truthy,iZ a,Option.map,q.emp];first|done|rw[a]
 .obtain⟨n,ds,rfl,_,a,q⟩:=q;simp only[Ev.truthy,truthy,jl a,Option.map,q.emp];first|done|rw[a]
 .obtain⟨n,rfl,_,a⟩:=q;simp only[Ev.truthy,truthy];rw[a]
def nn{α:Type}{v:α}{p:Prop}(z:none=some v):p:=Option.noConfusion rfl (heq_of_eq z)
def OR{o:bV}{x y v:V}{d e:D}(w:∀m,S m->m<h.length)(z:bW o x y=some v)(p:bA h S x d)(q:bA h S y e):∃r h' S',Ev.bW o d e h=.ok r h'/\Rep h' S' v r/\Al h S h' S':=by
 cases o<;>cases x<;>first|exact nn z | (cases y<;>first|exact nn z|skip)
 all_goals (delta bW at z;dsimp only at z;simp only[bA,Rep]at p q)
 .subst p q;cases z;exact⟨_,_,S,rfl,rfl,.refl⟩
 .subst p q;split at z
  .rename_i k;cases z;exact⟨_,_,S,by delta Ev.bW;dsimp only;rw[LV k],rfl,.refl⟩
  .cases z
 .obtain⟨ds,rfl,p⟩:=p;obtain⟨c,rfl,q⟩:=q;split at z
  .rename_i k;cases z;exact⟨_,_,S,by delta Ev.bW;dsimp only;rw[LV (by rw[<-p.length,<-q.length];exact k)],⟨_,rfl,p.append q⟩,.refl⟩
  .cases z
 .obtain⟨n,ds,rfl,a,p⟩:=p;obtain⟨m,c,rfl,b,q⟩:=q
  delta Ev.bW;dsimp only;simp only[a,b]
  exact gx w z (p.append q)
 .subst p q;cases z;exact⟨_,_,S,rfl,rfl,.refl⟩
 .subst p q;split at z
  .rename_i k;cases z;exact⟨_,_,S,by delta Ev.bW;dsimp only;rw[LV k],rfl,.refl⟩
  .cases z
 .subst p q;split at z
  .rename_i k;cases z;exact⟨_,_,S,by delta Ev.bW;dsimp only;rw[LV k],rfl,.refl⟩
  .cases z
 .obtain⟨ds,rfl,p⟩:=p;subst q;split at z
  .rename_i k;cases z;exact⟨_,_,S,by delta Ev.bW;dsimp only;rw[LV (by rw[<-p.length];exact k)],⟨_,rfl,p.rep _⟩,.refl⟩
  .cases z
 .obtain⟨n,ds,rfl,a,p⟩:=p;subst q;split at z
  .rename_i k
   delta Ev.bW;dsimp only;simp only[a]
   rw[LV (by rw[<-p.length];exact k)];exact gx w z (p.rep _)
  .cases z
 .subst p q;split at z
  .rename_i k;cases z;exact⟨_,_,S,by delta Ev.bW;dsimp only;rw[LV k],rfl,.refl⟩
  .cases z
 .subst p q;split at z
  .rename_i k;cases z;exact⟨_,_,S,by delta Ev.bW;dsimp only;rw[LV k],rfl,.refl⟩
  .cases z
theorem rY{x:V}{d:D}(p:Rep h U x d):∀{l:List V}{ds:List D}{b},mem x l=some b->ak h U l ds->Ev.mem h d ds=some b
 |[],_,b,e,q=>by simp only[ak]at q;subst q;simpa[mem,Ev.mem]using e
 |y :: ys,_,b,e,q=>by
  simp only[ak]at q;obtain⟨j,ds,rfl,a,f⟩:=q;simp only[mem,aah]at e;obtain⟨c,g,o,i,e⟩:=e;simp[Ev.mem,ja deep g a p,rY p i f];simpa using e
def Aq{x y:V}{d e:D}{b:Bool}(z:isin x y=some b)(p:Rep h U x d)(q:Rep h U y e):Ev.isin d e h=some b:=by
 cases y<;>simp only[isin,reduceCtorEq]at z<;>simp only[Rep]at q
 .subst q;split at z
  .simp only[Rep]at p;subst p;simpa[Ev.isin]using z
  .cases z
 .obtain⟨ds,rfl,q⟩:=q;simpa[Ev.isin]using rY p z q
 .obtain⟨n,ds,rfl,_,a,q⟩:=q;simpa[Ev.isin,iZ a]using rY p z q
 .obtain⟨n,ds,rfl,_,a,q⟩:=q;simpa[Ev.isin,jl a]using rY p z q
def OS{o:bR}{x y:V}{d e:D}{b:Bool}(z:cop o x y=some b)(p:Rep h U x d)(q:Rep h U y e):Ev.cop o d e h=some b:=by
 cases o
 case eq=>delta cop at z;dsimp only at z;delta Ev.cop;dsimp only;exact ja deep z p q
 case ne=>
  delta cop at z;dsimp only at z;simp only[aab]at z;obtain⟨c,z,rfl⟩:=z
  delta Ev.cop;dsimp only;simp only[ja deep z p q];rfl
 case isin=>delta cop at z;dsimp only at z;delta Ev.cop;dsimp only;exact Aq z p q
 case m8=>
  delta cop at z;dsimp only at z;simp only[aab]at z;obtain⟨c,z,rfl⟩:=z
  delta Ev.cop;dsimp only;simp only[Aq z p q];rfl
 case zI=>
  cases y <;> (delta cop at z;dsimp only at z) <;> (try simp only[reduceCtorEq]at z)
  simp only[Rep]at q;subst q;cases x<;>simp only[Rep]at p <;> (try obtain⟨_,rfl,_⟩:=p) <;> (try obtain⟨_,_,rfl,_⟩:=p) <;> (try subst p) <;> (delta Ev.cop;dsimp only;simpa using z)
 case lT=>
  cases y <;> (delta cop at z;dsimp only at z) <;> (try simp only[reduceCtorEq]at z)
  simp only[Rep]at q;subst q;cases x<;>simp only[Rep]at p <;> (try obtain⟨_,rfl,_⟩:=p) <;> (try obtain⟨_,_,rfl,_⟩:=p) <;> (try subst p) <;> (delta Ev.cop;dsimp only;simpa using z)
 all_goals (
  cases x<;>first|exact nn z | (cases y<;>first|exact nn z|skip)
  simp only[Rep]at p q;subst p q;exact z)
def BR{l:List V}{ds:List D}{i:Int}{v:V}(e:bU l i=some v)(q:ak h S l ds):∃d,bU ds i=some d/\Rep h S v d:=by
 unfold bU at e ⊢;rw[q.length]at e;cases z:eV ds.length i with
 |none=>rw[z]at e;cases e
 |some j=>rw[z]at e;exact q.get e
def OT{x y v:V}{d e:D}(z:gj x y=some v)(p:bA h S x d)(q:bA h S y e):∃r,Ev.gj d e h=some r/\Rep h S v r:=by
 cases x<;>cases y<;>simp only[gj,reduceCtorEq]at z<;>simp only[bA,Rep]at p q
 .subst p q;simp only[aab]at z;obtain⟨c,z,rfl⟩:=z;exact⟨.str [c],by simp[Ev.gj,z],rfl⟩
 .obtain⟨ds,rfl,p⟩:=p;subst q;simpa[Ev.gj]using BR z p
 .obtain⟨n,ds,rfl,a,p⟩:=p;subst q;simpa[Ev.gj,iZ a]using BR z p
 .obtain⟨n,ds,rfl,_,a,p⟩:=p;subst q;simpa[Ev.gj,jl a]using BR z p
def OU{x v:V}{d:D}{lo hi:Option Int}(w:∀m,S m->m<h.length)(z:fX x lo hi=some v)(p:bA h S x d):∃r h' S',Ev.fX d lo hi h=.ok r h'/\Rep h' S' v r/\Al h S h' S':=by
 cases x<;>simp only[fX,reduceCtorEq]at z<;>simp only[bA,Rep]at p
 .subst p;cases z;exact⟨_,_,S,rfl,rfl,.refl⟩
 .obtain⟨ds,rfl,p⟩:=p;cases z;exact⟨_,_,S,rfl,⟨_,rfl,p.cut _ _⟩,.refl⟩
 .obtain⟨n,ds,rfl,a,p⟩:=p;simp only[Ev.fX,iZ a];exact gx w z (p.cut _ _)
 .obtain⟨n,ds,rfl,_,a,p⟩:=p;simp only[Ev.fX,jl a];exact gx w z (p.cut _ _)
def OV{x v:V}{d:D}(z:toT x=some v)(p:bA h S x d):∃r,Ev.tE d h=.ok r h/\Rep h S v r:=by
 cases x<;>simp only[toT,reduceCtorEq]at z<;>simp only[bA,Rep]at p
 .obtain⟨ds,rfl,p⟩:=p;cases z;exact⟨_,rfl,⟨_,rfl,p⟩⟩
 .obtain⟨n,ds,rfl,a,p⟩:=p;unfold kE at z;split at z
  .rename_i k;cases z;refine⟨.tup ds,?_,⟨_,rfl,p⟩⟩;simp only[Ev.tE,iZ a];rw[LV (by rw[<-p.length];exact k)]
  .cases z
 .obtain⟨n,ds,rfl,_,a,p⟩:=p;unfold kE at z;split at z
  .rename_i k;cases z;refine⟨.tup ds,?_,⟨_,rfl,p⟩⟩;simp only[Ev.tE,jl a];rw[LV (by rw[<-p.length];exact k)]
  .cases z
omit h in
theorem xC{h:Hh}{n:Nat}{ds:List D}(a:bO h n=some ds):Ev.gq h n=some (.int 0 :: ds):=by
 unfold bO at a;unfold Ev.gq;split at a
 .rename_i z;cases a;rw[z];rfl
 .rename_i z;cases a;rw[z];rfl
 .cases a
def W6{x:V}{l:List V}{d:D}(z:jH x=some l)(p:bA h S x d):∃s,Ev.M5 h d=some s/\ak h S l s.1/\(∀q∈s.2,d=.ref q.1/\Ev.gq h q.1=some q.2):=by
 obtain⟨n,ds,rfl,a,q⟩:=fY z p;exact⟨(ds,[(n,.int 0 :: ds)]),by simp[Ev.M5,a],q,by simp[xC a]⟩
theorem GP:∀{l:List V}{ds:List D}{bs},boolsOf l=some bs->ak h S l ds->Ev.boolsOf ds=some bs
 |[],_,_,e,q=>by simp only[ak]at q;subst q;exact e
 |x :: xs,_,bs,e,q=>by
  cases x<;>simp only[boolsOf,reduceCtorEq,aab]at e
  obtain⟨r,e,rfl⟩:=e;simp only[ak,Rep]at q;obtain⟨_,ds,rfl,rfl,q⟩:=q;simp[Ev.boolsOf,GP e q]
theorem Ar:∀{l:List V}{ds:List D}{bs},intsOf l=some bs->ak h S l ds->Ev.intsOf ds=some bs
 |[],_,_,e,q=>by simp only[ak]at q;subst q;exact e
 |x :: xs,_,bs,e,q=>by
  cases x<;>simp only[intsOf,reduceCtorEq,aab]at e
  obtain⟨r,e,rfl⟩:=e;simp only[ak,Rep]at q;obtain⟨_,ds,rfl,rfl,q⟩:=q;simp[Ev.intsOf,Ar e q]
theorem pW:∀{l:List V}{ds:List D}{bs},strsOf l=some bs->ak h S l ds->Ev.strsOf ds=some bs
 |[],_,_,e,q=>by simp only[ak]at q;subst q;exact e
 |x :: xs,_,bs,e,q=>by
  cases x<;>simp only[strsOf,reduceCtorEq,aab]at e
  obtain⟨r,e,rfl⟩:=e;simp only[ak,Rep]at q;obtain⟨_,ds,rfl,rfl,q⟩:=q;simp[Ev.strsOf,pW e q]
def eZ.one{v:V}{ds:List D}(q:eZ h S [v] ds):∃d,ds=[d]/\bA h S v d:=by
 simp only[eZ]at q;obtain⟨d,b,rfl,a,rfl⟩:=q;exact⟨d,rfl,a⟩
def OW{b:BI}{xs:List V}{v:V}{ds:List D}(w:∀m,S m->m<h.length)(z:cY b xs=some v)(p:eZ h S xs ds):∃r h' S',Ev.cY b ds h=.ok r h'/\Rep h' S' v r/\Al h S h' S':=by
 delta cY at z
 rcases xs with _|⟨x,_|⟨y,_|⟨u,xs⟩⟩⟩
 .cases b<;>exact nn z
 .obtain⟨d,rfl,c⟩:=p.one;cases b
  case len=>
   cases x
   case str s=>
    dsimp only at z;simp only[bA,Rep]at c;subst c;split at z
    .rename_i k;cases z;exact⟨_,_,S,by delta Ev.cY;dsimp only;rw[LV k],rfl,.refl⟩
    .cases z
   case tup l=>
    dsimp only at z;simp only[bA,Rep]at c;obtain⟨o,rfl,C⟩:=c;cases z;exact⟨_,_,S,rfl,by simp[Rep,C.length],.refl⟩
   all_goals
    dsimp only at z;simp only[aab]at z;obtain⟨l,z,rfl⟩:=z;obtain⟨n,o,rfl,a,q⟩:=fY z c;exact⟨.int o.length,h,S,by delta Ev.cY;dsimp only;simp[a],by simp[Rep,q.length],.refl⟩
  case sum=>
   dsimp only at z;simp only[aab,aah]at z;obtain⟨bs,⟨l,z,A⟩,rfl⟩:=z;obtain⟨n,o,rfl,a,q⟩:=fY z c;exact⟨_,_,S,by delta Ev.cY;dsimp only;simp only[a,Option.bind,Ar A q];rfl,rfl,.refl⟩
  case min=>cases x<;>exact nn z
  case sorted=>
   dsimp only at z;simp only[aah]at z;obtain⟨F,⟨l,z,A⟩,e⟩:=z;obtain⟨n,o,rfl,a,q⟩:=fY z c;split at e
   .rename_i B
    delta Ev.cY;dsimp only;simp only[a,Option.bind,pW A q]
    rw[LV B];exact gx w e (ak.map (f:=V.str) (g:=D.str) (λs=>by simp[Rep]) _)
   .cases e
  case kU=>
   dsimp only at z;simp only[aah]at z;obtain⟨F,⟨l,z,A⟩,e⟩:=z;obtain⟨n,o,rfl,a,q⟩:=fY z c;split at e
   .rename_i B
    delta Ev.cY;dsimp only;simp only[a,Option.bind,pW A q]
    rw[LV B];exact gx w e (ak.map (f:=V.str) (g:=D.str) (λs=>by simp[Rep]) _)
   .cases e
 .cases b
  case min=>
   cases x
   case int i=>
    cases y
    case int j=>
     dsimp only at z;simp only[eZ,bA,Rep]at p;obtain⟨_,_,rfl,rfl,_,_,rfl,rfl,rfl⟩:=p;cases z;exact⟨_,_,S,rfl,rfl,.refl⟩
    all_goals exact nn z
   all_goals exact nn z
  case len=>cases x<;>exact nn z
  all_goals exact nn z
 .cases b
  case min=>cases x <;> (try cases y)<;>exact nn z
  case len=>cases x<;>exact nn z
  all_goals exact nn z
theorem xD{x:V}{d:D}(p:Rep h U x d):∀{l:List V}{ds:List D}{b},cnt x l=some b->ak h U l ds->Ev.cnt h d ds=some b
 |[],_,b,e,q=>by simp only[ak]at q;subst q;simpa[cnt,Ev.cnt]using e
 |y :: ys,_,b,e,q=>by
  simp only[ak]at q;obtain⟨j,ds,rfl,a,f⟩:=q;simp only[cnt,aah]at e;obtain⟨c,g,o,i,e⟩:=e;simp[Ev.cnt,ja deep g a p,xD p i f];simpa using e
theorem DX{x:V}{d:D}(p:Rep h U x d):∀{l:List V}{ds:List D}{k b},idx x l k=some b->ak h U l ds->Ev.idx h d ds k=some b
 |[],_,k,b,e,q=>by simp[idx]at e
 |y :: ys,_,k,b,e,q=>by
  simp only[ak]at q;obtain⟨g,ds,rfl,a,f⟩:=q;simp only[idx]at e;cases z:dB deep y x with
  |none=>rw[z]at e;cases e
  |some c=>
   rw[z]at e;simp only[Ev.idx,ja deep z a p];cases c with
   |true=>exact e
   |false=>exact DX p e f
def OY{m:ME}{o:V}{xs:List V}{v:V}{d:D}{ds:List D}(z:eF m o xs=some v)(hm:jy m=false)(po:bA h S o d)(p:eZ h S xs ds):Ev.nR m d h=true/\∃r,Ev.eF m d ds h=.ok r h/\Rep h S v r:=by
 unfold eF at z;split at z
 .obtain⟨d,rfl,b⟩:=p.one;simp only[bA,Rep]at po;subst po;simp only[aah]at z;obtain⟨j,⟨l,z,c⟩,f⟩:=z;obtain⟨n,g,rfl,a,q⟩:=fY z b;split at f
  .rename_i k;cases f;refine⟨rfl,_,?_,rfl⟩
   delta Ev.eF;dsimp only;simp only[a,Option.bind,pW c q]
   rw[LV k]
  .cases f
 .obtain⟨i,rfl,b⟩:=p.one;have e:=b.u;simp only[bA,Rep]at b;subst b;simp only[aab,aah]at z;obtain⟨k,⟨l,z,c⟩,rfl⟩:=z;obtain⟨n,g,rfl,a,q⟩:=fY z po;refine⟨by simp[Ev.nR,a],_,?_,rfl⟩
  delta Ev.eF;dsimp only;simp only[a,Option.bind,xD e c q.u];rfl
 .obtain⟨i,rfl,b⟩:=p.one;have e:=b.u;simp only[bA,Rep]at b;subst b;simp only[aab,aah]at z;obtain⟨k,⟨l,z,c⟩,rfl⟩:=z;obtain⟨n,g,rfl,a,q⟩:=fY z po;refine⟨by simp[Ev.nR,a],_,?_,rfl⟩
  delta Ev.eF;dsimp only;simp only[a,Option.bind,xD e c q.u];rfl
 .obtain⟨i,rfl,b⟩:=p.one;simp only[aab,aah]at z;obtain⟨k,⟨l,z,c⟩,rfl⟩:=z;obtain⟨n,g,rfl,a,q⟩:=fY z po;refine⟨by simp[Ev.nR,a],_,?_,rfl⟩
  delta Ev.eF;dsimp only;simp only[a,Option.bind,DX b.u c q.u];rfl
 .cases z
def K6{x:V}{d:D}(f:vh x=true)(p:Rep h U x d):Rep [] U x d:=by
 cases x<;>simp only[vh,aay]at f<;>exact p
def WO{x:V}{d:D}(p:Rep h U x d):∀{kvs:List (D×D)}{v:V},nc x kvs=some v->∃r,Ev.nc d kvs=some r/\Rep h S v r:=by
 intro kvs v z;unfold nc at z;split at z
 .rename_i f;have c:=K6 f p;induction kvs with
  |nil=>cases z
  |cons e r g=>
   obtain⟨k,u⟩:=e;simp only[BN]at z;simp only[Ev.nc];split at z
   .rename_i y;simp only[aah]at y;obtain⟨i,a,b⟩:=y;rw[ja 1 b (oY a) c];exact⟨u,rfl,oY z⟩
   .rename_i y;simp only[aah]at y;obtain⟨i,a,b⟩:=y;rw[ja 1 b (oY a) c];exact g z
   .cases z
 .cases z
def GQ{x:V}{l:List V}{d:D}(z:gI x=some l)(p:bA h S x d):∃s,Ev.gI h d=some s/\ak h S l s.1/\(∀q∈s.2,d=.ref q.1/\Ev.gq h q.1=some q.2):=by
 cases x<;>simp only[gI,reduceCtorEq]at z<;>simp only[bA,Rep]at p
 .subst p;cases z;exact⟨_,rfl,ak.map (f:=λc=>V.str [c]) (g:=λc=>D.str [c]) (λ_=>by simp[Rep]) _,by simp⟩
 .obtain⟨ds,rfl,p⟩:=p;cases z;exact⟨_,rfl,p,by simp⟩
 .obtain⟨n,ds,rfl,a,p⟩:=p;cases z;exact⟨(ds,[(n,.int 0 :: ds)]),by simp[Ev.gI,iZ a],p,by simp[xC (iZ a)]⟩
 .obtain⟨n,ds,rfl,_,a,p⟩:=p;cases z;exact⟨(ds,[(n,.int 0 :: ds)]),by simp[Ev.gI,jl a],p,by simp[xC (jl a)]⟩
def xE(lo:Int)(n:Nat):ak h S (range lo n) (Ev.range lo n):=ak.map (f:=λ(i:Nat)=>V.int (lo+i)) (g:=λ(i:Nat)=>D.int (lo+i)) (λ_=>by simp[Rep]) _
def DY(hi:Int)(n:Nat):ak h S (oM hi n) (Ev.oM hi n):=ak.map (f:=λ(i:Nat)=>V.int (hi - i)) (g:=λ(i:Nat)=>D.int (hi - i)) (λ_=>by simp[Rep]) _
def OZ{xs l:List V}{ds:List D}(z:fE xs=some l)(p:eZ h S xs ds):∃s,Ev.fE ds=some (s,[])/\ak h S l s:=by
 unfold fE at z;split at z
 .obtain⟨d,rfl,a⟩:=p.one;simp only[bA,Rep]at a;subst a;split at z
  .rename_i k;cases z;exact⟨_,by simp only[Ev.fE];rw[LV k],xE _ _⟩
  .cases z
 .simp only[eZ,bA,Rep]at p;obtain⟨_,_,rfl,rfl,_,_,rfl,rfl,rfl⟩:=p;split at z
  .rename_i k;cases z;exact⟨_,by simp only[Ev.fE];rw[LV k],xE _ _⟩
  .cases z
 .simp only[eZ,bA,Rep]at p;obtain⟨_,_,rfl,rfl,_,_,rfl,rfl,_,_,rfl,rfl,rfl⟩:=p;split at z
  .rename_i k;cases z;exact⟨_,by simp only[Ev.fE];rw[LV k],DY _ _⟩
  .cases z
 .cases z
theorem K7:∀{a:List V}{ds:List D}(k:Int),ak h S a ds->ak h S (jY k a) (Ev.jY k ds)
 |[],_,_,p=>by simp only[ak]at p;subst p;simp[jY,Ev.jY,ak]
 |x :: xs,_,k,p=>by
  simp only[ak]at p;obtain⟨d,ds,rfl,b,c⟩:=p;simp only[jY,Ev.jY];exact .cons ⟨_,rfl,.cons rfl (.cons b .nil)⟩ (K7 _ c)
end
def kR(M B:Nat->Prop)(h:Hh)(S:Nat->Prop):Option Sl->Option D->Prop
 |none,p=>p=none
 |some (.val v),p=>∃d,p=some d/\Rep h S v d
 |some (.own l),p=>∃m ds,p=some (.ref m)/\(M m/\¬ B m)/\h[m]?=some (.lst ds)/\ak h S l ds
 |some (.bor l),p=>∃m ds,p=some (.ref m)/\(M m/\B m)/\h[m]?=some (.lst ds)/\ak h S l ds
 |some (.ro l),p=>∃m ds,p=some (.ref m)/\¬ M m/\h[m]?=some (.lst ds)/\ak h S l ds
 |some (.oo c l),p=>∃m ds,p=some (.ref m)/\(M m/\¬ B m)/\h[m]?=some (.obj c ds)/\ak h S l ds
 |some (.ob c l),p=>∃m ds,p=some (.ref m)/\(M m/\B m)/\h[m]?=some (.obj c ds)/\ak h S l ds
 |some (.oq c l),p=>∃m ds,p=some (.ref m)/\¬ M m/\h[m]?=some (.obj c ds)/\ak h S l ds
noncomputable def oO:Sl->List D->O
 |.oo c _,ds=>.obj c ds
 |.ob c _,ds=>.obj c ds
 |.oq c _,ds=>.obj c ds
 |_,ds=>.lst ds
noncomputable def gX:Option Sl->Bool
 |some (.own _)=>true
 |some (.bor _)=>true
 |some (.oo _ _)=>true
 |some (.ob _ _)=>true
 |_=>false
noncomputable def uP:Option Sl->Bool
 |some (.bor _)=>true
 |some (.ro _)=>true
 |some (.ob _ _)=>true
 |some (.oq _ _)=>true
 |_=>false
noncomputable def locked(fr:Fr)(i:Nat):Bool:=match fr[i]? with
 |some o=>uP o
 |none=>false
structure bC(M B:Nat->Prop)(h:Hh)(S:Nat->Prop)(fr:Fr)(aj:Ev.Fr):Prop where
 wS:∀m,S m->m<h.length/\¬ M m/\¬ B m
 wM:∀m,M m->m<h.length
 wB:∀m,B m->m<h.length
 len:fr.length=aj.length
 sl:∀(i:Nat) o p,fr[i]?=some o->aj[i]?=some p->kR M B h S o p
 inj:∀(i j:Nat) o o' m,fr[i]?=some o->fr[j]?=some o'->gX o=true->gX o'=true->aj[i]?=some (some (.ref m))->aj[j]?=some (some (.ref m))->i=j
noncomputable def kO:Option O->Option Ev.Cl
 |some (.obj c _)=>some c
 |_=>none
structure Tk(X:Nat->Prop)(h:Hh)(S:Nat->Prop)(h':Hh)(S':Nat->Prop):Prop where
 len:h.length<=h'.length
 keep:∀m,m<h.length->¬ X m->h'[m]?=h[m]?
 sub:∀m,S m->S' m
 new:∀m,S' m->S m\/(h.length<=m/\m<h'.length)
 cls:∀m:Nat,m<h.length->kO h'[m]?=kO h[m]?
def Xs(M:Nat->Prop)(aj:Ev.Fr)(l:List Nat):Nat->Prop:=λm=>M m/\∃i∈l,aj[i]?=some (some (.ref m))
structure Out(M B:Nat->Prop)(c:List Nat)(h:Hh)(S:Nat->Prop)(fr:Fr)(aj:Ev.Fr)(h':Hh)(S':Nat->Prop)(af:Fr):Prop where
 f:bC M B h' S' af aj
 tr:Tk (Xs M aj c) h S h' S'
 lk:∀i,locked af i=locked fr i
section
variable{M B:Nat->Prop}{h h' h1 h2:Hh}{S S' S1 S2:Nat->Prop}{fr af aq:Fr}{aj:Ev.Fr}{c c1 c2:List Nat}{v:V}{d:D}{X X1 X2:Nat->Prop}
def bC.get(f:bC M B h S fr aj){i:Nat}{o:Option Sl}(e:fr[i]?=some o):∃p,aj[i]?=some p/\kR M B h S o p:=by
 have h1:=(List.getElem?_eq_some_iff.mp e).1;rw[f.len]at h1;exact⟨aj[i],QJ h1,f.sl i o _ e (QJ h1)⟩
def bC.w(f:bC M B h S fr aj):∀m,S m->m<h.length:=λm q=>(f.wS m q).1
def Al.tr(a:Al h S h' S'):Tk X h S h' S':=⟨a.len,λm q _=>a.keep m q,a.sub,a.new
 ,λm q=>by rw[a.keep m q]
 ⟩
def Tk.al(t:Tk X h S h' S')(z:∀m,¬ X m):Al h S h' S':=⟨t.len,λm q=>t.keep m q (z m),t.sub,t.new⟩
def Tk.weak(t:Tk X h S h' S')(q:∀m,X m->X1 m):Tk X1 h S h' S':=⟨t.len,λm k z=>t.keep m k λy=>z (q m y),t.sub,t.new
 ,t.cls
 ⟩
theorem Tk.trans(a:Tk X1 h S h1 S1)(b:Tk X2 h1 S1 h2 S2):Tk (λm=>X1 m\/X2 m) h S h2 S2 where
 len:=aas a.len b.len
 keep:=λm q z=>by rw[b.keep m (aaa q a.len) (λy=>z (.inr y)),a.keep m q (λy=>z (.inl y))]
 sub:=λm q=>b.sub m (a.sub m q)
 new:=λm q=>by
  rcases b.new m q with q|⟨e,f⟩
  .rcases a.new m q with q|⟨e,f⟩
   .exact .inl q
   .exact .inr ⟨e,aaa f b.len⟩
  .exact .inr ⟨aas a.len e,f⟩
 cls:=λm q=>(b.cls m (aaa q a.len)).trans (a.cls m q)
theorem Al.trans(a:Al h S h1 S1)(b:Al h1 S1 h2 S2):Al h S h2 S2:=((a.tr (X:=λ_=>False)).trans (b.tr (X:=λ_=>False))).al λm z=>by simp at z
def Tk.refl:Tk X h S h S:=⟨aae _,λ_ _ _=>rfl,λ_ q=>q,λ_ q=>.inl q
 ,λ_ _=>rfl
 ⟩
def Xs.app{l1 l2:List Nat}{m:Nat}:Xs M aj (l1++l2) m↔Xs M aj l1 m\/Xs M aj l2 m:=by
 unfold Xs;constructor
 .rintro⟨a,i,b,e⟩;rcases List.mem_append.mp b with b|b
  .exact .inl ⟨a,i,b,e⟩
  .exact .inr ⟨a,i,b,e⟩
 .rintro(⟨a,i,b,e⟩|⟨a,i,b,e⟩)
  .exact⟨a,i,List.mem_append.mpr (.inl b),e⟩
  .exact⟨a,i,List.mem_append.mpr (.inr b),e⟩
def Xs.nil{m:Nat}:¬ Xs M aj [] m:=by rintro⟨_,i,hi,_⟩;simp at hi
def Xs.mono{l1 l2:List Nat}(q:∀i∈l1,i∈l2){m:Nat}:Xs M aj l1 m->Xs M aj l2 m:=λ⟨a,i,b,e⟩=>⟨a,i,q i b,e⟩
def Rep.tr(q:Rep h S v d)(f:bC M B h S fr aj)(t:Tk (Xs M aj c) h S h' S'):Rep h' S' v d:=q.mono (λm z=>t.keep m (f.wS m z).1 (λy=>(f.wS m z).2.1 y.1)) t.sub
def ak.tr{l:List V}{ds:List D}(q:ak h S l ds)(f:bC M B h S fr aj)(t:Tk (Xs M aj c) h S h' S'):ak h' S' l ds:=q.mono (λm z=>t.keep m (f.wS m z).1 (λy=>(f.wS m z).2.1 y.1)) t.sub
def bA.tr(q:bA h S v d)(f:bC M B h S fr aj)(t:Tk X h S h' S')(z:∀m,¬ X m):bA h' S' v d:=q.mono (λm k=>t.keep m k (z m)) f.w t.sub
def kR.al{o:Option Sl}{p:Option D}(q:kR M B h S o p)(w:∀m,S m->m<h.length)(a:Al h S h' S'):kR M B h' S' o p:=by
 have k:∀m,S m->h'[m]?=h[m]?:=λm z=>a.keep m (w m z);have g:∀(m:Nat) (ds:O),h[m]?=some ds->h'[m]?=some ds:=λm ds z=>by rw[a.keep m (List.getElem?_eq_some_iff.mp z).1];exact z
 rcases o with _|s
 .exact q
 .cases s with
  |val v=>obtain⟨d,e,q⟩:=q;exact⟨d,e,q.mono k a.sub⟩
  |own l=>obtain⟨m,ds,e,z,y,q⟩:=q;exact⟨m,ds,e,z,g m _ y,q.mono k a.sub⟩
  |bor l=>obtain⟨m,ds,e,z,y,q⟩:=q;exact⟨m,ds,e,z,g m _ y,q.mono k a.sub⟩
  |ro l=>obtain⟨m,ds,e,z,y,q⟩:=q;exact⟨m,ds,e,z,g m _ y,q.mono k a.sub⟩
  |oo c l=>obtain⟨m,ds,e,z,y,q⟩:=q;exact⟨m,ds,e,z,g m _ y,q.mono k a.sub⟩
  |ob c l=>obtain⟨m,ds,e,z,y,q⟩:=q;exact⟨m,ds,e,z,g m _ y,q.mono k a.sub⟩
  |oq c l=>obtain⟨m,ds,e,z,y,q⟩:=q;exact⟨m,ds,e,z,g m _ y,q.mono k a.sub⟩
theorem bC.al(f:bC M B h S fr aj)(a:Al h S h' S'):bC M B h' S' fr aj where
 wS:=λm q=>by
  rcases a.new m q with q|⟨j,b⟩
  .exact⟨aaa (f.wS m q).1 a.len,(f.wS m q).2⟩
  .exact⟨b,λz=>by have:=f.wM m z;omega,λz=>by have:=f.wB m z;omega⟩
 wM:=λm q=>aaa (f.wM m q) a.len
 wB:=λm q=>aaa (f.wB m q) a.len
 len:=f.len
 sl:=λi o p e g=>(f.sl i o p e g).al f.w a
 inj:=f.inj
theorem Out.refl(f:bC M B h S fr aj):Out M B c h S fr aj h S fr:=⟨f,.refl,λ_=>rfl⟩
theorem Out.trans(a:Out M B c1 h S fr aj h1 S1 af)(b:Out M B c2 h1 S1 af aj h2 S2 aq):Out M B (c1++c2) h S fr aj h2 S2 aq:=⟨b.f,(a.tr.trans b.tr).weak λm z=>Xs.app.mpr z,λi=>(b.lk i).trans (a.lk i)⟩
theorem Out.al(a:Out M B c h S fr aj h1 S1 af)(b:Al h1 S1 h2 S2):Out M B c h S fr aj h2 S2 af:=⟨a.f.al b,(a.tr.trans (b.tr (X:=λ_=>False))).weak (λm z=>by rcases z with z|z;exact z;exact z.elim),a.lk⟩
theorem Out.weak(a:Out M B c h S fr aj h1 S1 af)(q:∀i∈c,i∈c1):Out M B c1 h S fr aj h1 S1 af:=⟨a.f,a.tr.weak λm z=>Xs.mono q z,a.lk⟩
def gy(k:Bool)(h:Hh)(S:Nat->Prop)(v:V)(d:D):Prop:=if k=true then bA h S v d else Rep h S v d
def gy.of{k:Bool}(q:Rep h S v d):gy k h S v d:=by unfold gy;split;exact q.top;exact q
def gy.t{k:Bool}(q:gy k h S v d):bA h S v d:=by unfold gy at q;split at q;exact q;exact q.top
def gy.n(q:gy false h S v d):Rep h S v d:=by simpa[gy]using q
def bC.slot(f:bC M B h S fr aj){i m:Nat}(e:aj[i]?=some (some (.ref m)))(hm:M m):∃o,fr[i]?=some o/\gX o=true:=by
 have b:i<fr.length:=by rw[f.len];exact(List.getElem?_eq_some_iff.mp e).1
 refine⟨fr[i],QJ b,?_⟩;have s:=f.sl i _ _ (QJ b) e
 revert s
 generalize fr[i]=o
 intro s;rcases o with _|g
 .cases s
 .cases g with
  |own l=>rfl
  |bor l=>rfl
  |ro l=>obtain⟨j,ds,e,y,_⟩:=s;cases e;exact absurd hm y
  |oo c l=>rfl
  |ob c l=>rfl
  |oq c l=>obtain⟨j,ds,e,y,_⟩:=s;cases e;exact absurd hm y
  |val v=>
   obtain⟨d,e,q⟩:=s;cases e;exfalso;cases v<;>simp only[Rep,reduceCtorEq]at q
   .obtain⟨_,e,_⟩:=q;cases e
   .obtain⟨n,ds,e,a,_⟩:=q;cases e;exact(f.wS _ a).2.1 hm
   .obtain⟨n,ds,e,a,_⟩:=q;cases e;exact(f.wS _ a).2.1 hm
   .obtain⟨n,e,a,_⟩:=q;cases e;exact(f.wS _ a).2.1 hm
theorem gy.tr{k:Bool}{a:E}(q:gy k h S v d)(f:bC M B h S fr aj)(t:Tk (Xs M aj c) h S h' S')(hk:k=true->kf a c=true)(ha:∀i,a=.v i->aj[i]?.join=some d):gy k h' S' v d:=by
 unfold gy at q ⊢;split at q
 .rename_i e;rw[LV e];have hk:=hk e;have b:c=[]->bA h' S' v d:=λz=>q.tr f t λm y=>by subst z;exact Xs.nil y
  by_cases g:∃i,a=.v i
  .obtain⟨i0,rfl⟩:=g;simp only[kf,abi,List.contains_eq_mem,acy]at hk;cases v
   case lst l=>
    simp only[bA]at q ⊢;obtain⟨n,ds,rfl,o,x⟩:=q;refine⟨n,ds,rfl,?_,x.tr f t⟩;rw[t.keep n (List.getElem?_eq_some_iff.mp o).1 ?_]
    .exact o
    .rintro⟨mn,j,hj,ej⟩;have r:aj[i0]?=some (some (D.ref n)):=by
      have:=ha i0 rfl;cases z:aj[i0]? with
      |none=>rw[z]at this;cases this
      |some p=>rw[z]at this;simp at this;rw[this]
     obtain⟨A,C,F⟩:=f.slot r mn;obtain⟨G,H,I⟩:=f.slot ej mn;have:=f.inj i0 j A G n C H F I r ej;subst this;exact hk hj
   all_goals exact Rep.tr (show Rep h S _ d from q) f t
  .have:kf a c=c.isEmpty:=by
    cases a<;>first|rfl|exact absurd ⟨_,rfl⟩ g
   rw[this,List.isEmpty_iff]at hk;exact b hk
 .rename_i e;rw[aaj e];exact q.tr f t
def K8{k:Bool}{i:Nat}(e:kF k fr i=some v)(f:bC M B h S fr aj):∃d,aj[i]?.join=some d/\gy k h S v d:=by
  unfold kF at e;split at e
  . rename_i z;obtain⟨p,a,q⟩:=f.get z;obtain⟨d,rfl,q⟩:=q;cases e;exact⟨d,by rw[a];rfl,.of q⟩
  all_goals first
    | (rename_i z
       obtain⟨p,a,q⟩:=f.get z;obtain⟨m,ds,rfl,_,y,q⟩:=q;split at e
       . rename_i b;cases e;exact⟨.ref m,by rw[a];rfl,by unfold gy;rw[LV b];exact⟨m,ds,rfl,y,q⟩⟩
       . cases e)
    |cases e
def Vd:Sl->List V->Prop
 |.bor l,l'=>l=l'
 |.ob _ l,l'=>l=l'
 |_,_=>False
def Ve:Sl->List V->Prop
 |.ro l,l'=>l=l'
 |.oq _ l,l'=>l=l'
 |_,_=>False
def j9{i:Nat}{s:Sl}(e:lent fr i=some s)(f:bC M B h S fr aj):∃m ds l o,fr[i]?=some o/\aj[i]?=some (some (.ref m))/\h[m]?=some (oO s ds)/\ak h S l ds/\((Vd s l/\M m/\gX o=true)\/(Ve s l/\¬ M m/\o=some s)):=by
 unfold lent at e;split at e
 .rename_i g z;obtain⟨p,b,q⟩:=f.get z;cases g with
  |val v=>simp[Sl.lend]at e
  |own l=>
   simp[Sl.lend]at e;subst e;obtain⟨m,ds,rfl,y,a,q⟩:=q;exact⟨m,ds,l,_,z,b,a,q,.inl ⟨rfl,y.1,rfl⟩⟩
  |bor l=>
   simp[Sl.lend]at e;subst e;obtain⟨m,ds,rfl,y,a,q⟩:=q;exact⟨m,ds,l,_,z,b,a,q,.inl ⟨rfl,y.1,rfl⟩⟩
  |ro l=>
   simp[Sl.lend]at e;subst e;obtain⟨m,ds,rfl,y,a,q⟩:=q;exact⟨m,ds,l,_,z,b,a,q,.inr ⟨rfl,y,rfl⟩⟩
  |oo c l=>
   simp[Sl.lend]at e;subst e;obtain⟨m,ds,rfl,y,a,q⟩:=q;exact⟨m,ds,l,_,z,b,a,q,.inl ⟨rfl,y.1,rfl⟩⟩
  |ob c l=>
   simp[Sl.lend]at e;subst e;obtain⟨m,ds,rfl,y,a,q⟩:=q;exact⟨m,ds,l,_,z,b,a,q,.inl ⟨rfl,y.1,rfl⟩⟩
  |oq c l=>
   simp[Sl.lend]at e;subst e;obtain⟨m,ds,rfl,y,a,q⟩:=q;exact⟨m,ds,l,_,z,b,a,q,.inr ⟨rfl,y,rfl⟩⟩
 .cases e
def uQ(h:Hh)(S:Nat->Prop)(aj:Ev.Fr):List (Nat ⊕ V)->List D->Prop
 |[],ds=>ds=[]
 |.inl i :: r,ds=>∃d es,ds=d :: es/\aj[i]?=some (some d)/\uQ h S aj r es
 |.inr v :: r,ds=>∃d es,ds=d :: es/\Rep h S v d/\uQ h S aj r es
def o4(h:Hh)(S:Nat->Prop):List Sl->List D->List (List V)->Prop
 |[],_,os=>os=[]
 |.val _ :: sl,ds,os=>∃d es,ds=d :: es/\o4 h S sl es os
 |.own _ :: _,_,_=>False
 |.oo _ _ :: _,_,_=>False
 |s :: sl,ds,os=>∃d es l r m cs,ds=d :: es/\os=l :: r/\d=.ref m/\h[m]?=some (oO s cs)/\ak h S l cs/\o4 h S sl es r
def rZ(P:aS)(P':Ev.aS):Prop:=∀f sl v os,P f sl=some (v,os)->∀(h:Hh) (S B:Nat->Prop) (ds:List D),bC B B h S (sl.map some) (ds.map some)->
 ∃d h' S',P' f ds h=.ok d h'/\Rep h' S' v d/\Tk B h S h' S'/\o4 h' S' sl ds os
theorem args_get(f:bC M B h S fr aj):∀{as:List (Nat ⊕ V)}{sl:List Sl}{ds:List D},args fr as=some sl->uQ h S aj as ds->sl.length=ds.length/\∀(a:Nat) s d,sl[a]?=some s->ds[a]?=some d->
  (∃i,as[a]?=some (.inl i)/\lent fr i=some s/\aj[i]?=some (some d))\/(∃v,s=.val v/\Rep h S v d)
 |[],sl,ds,e,q=>by
  simp[args]at e;simp only[uQ]at q;subst e q;simp
 |.inl i :: r,sl,ds,e,q=>by
  simp only[args,aah,aab]at e;obtain⟨s,y,l,j,rfl⟩:=e;obtain⟨d,A,rfl,o,q⟩:=q;obtain⟨h1,h2⟩:=args_get f j q;refine⟨by simp[h1],λa p x b g=>?_⟩;cases a with
  |zero=>simp at b g;subst b g;exact .inl ⟨i,by simp,y,o⟩
  |succ a=>exact(h2 a p x (by simpa using b) (by simpa using g)).imp (λ⟨i,k,z⟩=>⟨i,by simpa using k,z⟩) id
 |.inr v :: r,sl,ds,e,q=>by
  simp only[args,aab]at e;obtain⟨l,j,rfl⟩:=e;obtain⟨d,A,rfl,o,q⟩:=q;obtain⟨h1,h2⟩:=args_get f j q;refine⟨by simp[h1],λa p x b g=>?_⟩;cases a with
  |zero=>simp at b g;subst b g;exact .inr ⟨v,rfl,o⟩
  |succ a=>exact(h2 a p x (by simpa using b) (by simpa using g)).imp (λ⟨i,k,z⟩=>⟨i,by simpa using k,z⟩) id
theorem iK:∀{as:List (Nat ⊕ V)}{a i:Nat},as[a]?=some (.inl i)->i∈b6 as
 |[],_,_,e=>by simp at e
 |.inl j :: r,0,i,e=>by simp at e;subst e;simp[b6]
 |.inr j :: r,0,i,e=>by simp at e
 |.inl j :: r,a+1,i,e=>by have:=iK (as:=r) (a:=a) (i:=i) (by simpa using e);simp[b6,this]
 |.inr j :: r,a+1,i,e=>by have:=iK (as:=r) (a:=a) (i:=i) (by simpa using e);simp[b6,this]
theorem o5:∀{as:List (Nat ⊕ V)}{a b i:Nat},(b6 as).Nodup->as[a]?=some (.inl i)->as[b]?=some (.inl i)->a=b
 |[],_,_,_,_,e,_=>by simp at e
 |x :: r,0,0,_,_,_,_=>rfl
 |.inr j :: r,0,b+1,i,n,e,_=>by simp at e
 |.inl j :: r,0,b+1,i,n,e,e2=>by
  simp at e;subst e;simp only[b6,ab3]at n;exact absurd (iK (as:=r) (a:=b) (by simpa using e2)) n.1
 |.inr j :: r,a+1,0,i,n,_,e=>by simp at e
 |.inl j :: r,a+1,0,i,n,e2,e=>by
  simp at e;subst e;simp only[b6,ab3]at n;exact absurd (iK (as:=r) (a:=a) (by simpa using e2)) n.1
 |.inl j :: r,a+1,b+1,i,n,e1,e2=>by
  simp only[b6,ab3]at n;have:=o5 (as:=r) (a:=a) (b:=b) (i:=i) n.2 (by simpa using e1) (by simpa using e2);omega
 |.inr j :: r,a+1,b+1,i,n,e1,e2=>by
  simp only[b6]at n;have:=o5 (as:=r) (a:=a) (b:=b) (i:=i) n (by simpa using e1) (by simpa using e2);omega
def GR{s:Sl}{l:List V}:gX (some (s.with l))=gX (some s):=by cases s<;>rfl
def tQ{s:Sl}{l:List V}:uP (some (s.with l))=uP (some s):=by cases s<;>rfl
theorem xF:∀{is:List Nat}{ls:List (List V)}{fr af:Fr},back is ls fr=some af->is.Nodup->af.length=fr.length/\(∀i,i∉is->af[i]?=fr[i]?)/\∀i∈is,∃(k:Nat) (s:Sl) (l:List V),is[k]?=some i/\ls[k]?=some l/\fr[i]?=some (some s)/\af[i]?=some (some (s.with l))
 |[],[],fr,af,e,_=>by simp[back]at e;subst e;simp
 |[],_ :: _,_,_,e,_=>by simp[back]at e
 |_ :: _,[],_,_,e,_=>by simp[back]at e
 |i :: is,l :: ls,fr,af,e,n=>by
  simp only[back]at e;simp only[ab3]at n;split at e
  .rename_i s z;obtain⟨h1,h2,o⟩:=xF e n.2;refine⟨by simpa using h1,λj f=>?_,λj f=>?_⟩
   .simp at f;rw[h2 j f.2,Uk (λq=>f.1 q.symm)]
   .rcases List.mem_cons.mp f with rfl|f
    .exact⟨0,s,l,by simp,by simp,z,by rw[h2 j n.1,aad (List.getElem?_eq_some_iff.mp z).1]⟩
    .obtain⟨k,p,r,a,b,c,d⟩:=o j f;have g:i≠j:=λq=>n.1 (q▸f);rw[Uk g]at c;exact⟨k+1,p,r,by simpa using a,by simpa using b,c,d⟩
  .cases e
theorem o6(f:bC M B h S fr aj):∀{as:List (Nat ⊕ V)}{sl:List Sl}{ds:List D}{os:List (List V)},args fr as=some sl->uQ h S aj as ds->o4 h' S' sl ds os->
    ∀(k i:Nat) l,(b6 as)[k]?=some i->os[k]?=some l->∃m cs s,lent fr i=some s/\aj[i]?=some (some (.ref m))/\h'[m]?=some (oO s cs)/\ak h' S' l cs
  |[],sl,ds,os,e,q,o=>by simp[b6]
  |.inl i :: r,sl,ds,os,e,q,o=>by
    simp only[args,aah,aab]at e;obtain⟨s,L,l,y,rfl⟩:=e;obtain⟨d,N,rfl,P,q⟩:=q;obtain⟨m,cs,Y,Z,_,z,z3,z4,x⟩:=j9 L f;have A:∃a b cs,os=a :: b/\h'[m]?=some (oO s cs)/\ak h' S' a cs/\o4 h' S' l N b:=by
      rw[P]at z;cases z;cases s<;>first
        | (obtain⟨Q,C,a,b,m1,O0,F,G,W,H,I,J⟩:=o
           cases F;cases W;exact⟨a,b,O0,G,H,I,J⟩)
        | (rcases x with x|x<;>exact x.1.elim)
    obtain⟨a,b,O0,rfl,H,I,J⟩:=A;intro k j K g p;cases k with
    |zero=>simp[b6]at g p;subst g p;exact⟨m,O0,s,L,z,H,I⟩
    |succ k=>exact o6 f y q J k j K (by simpa[b6]using g) (by simpa using p)
  |.inr v :: r,sl,ds,os,e,q,o=>by
    simp only[args,aab]at e;obtain⟨l,y,rfl⟩:=e;obtain⟨d,N,rfl,P,q⟩:=q;obtain⟨Q,C,F,G⟩:=o;cases F;intro k j K g p;exact o6 f y q G k j K (by simpa[b6]using g) p
theorem nh:∀{as:List (Nat ⊕ V)}{sl:List Sl}{i:Nat},args fr as=some sl->i∈b6 as->∃s,lent fr i=some s
 |[],_,_,_,q=>by simp[b6]at q
 |.inl j :: r,_,i,z,q=>by
  simp only[args,aah,aab]at z;obtain⟨s,b,l,a,rfl⟩:=z;simp[b6]at q;rcases q with rfl|q
  .exact⟨s,b⟩
  .exact nh a q
 |.inr u :: r,_,i,z,q=>by
  simp only[args,aab]at z;obtain⟨l,a,rfl⟩:=z;exact nh a (by simpa[b6]using q)
def LB(fr:Fr)(aj:Ev.Fr)(as:List (Nat ⊕ V)):Nat->Prop:=λm=>∃(i:Nat) (o:Option Sl),i∈b6 as/\fr[i]?=some o/\gX o=true/\aj[i]?=some (some (.ref m))
theorem LB.m(f:bC M B h S fr aj){as:List (Nat ⊕ V)}:∀m,LB fr aj as m->M m:=λm ⟨i,o,_,a,b,c⟩=>by
  have s:=f.sl i o _ a c;rcases o with _|p
  .cases b
  .cases p with
   |val v=>cases b
   |ro l=>cases b
   |own l=>obtain⟨j,g,e,y,_⟩:=s;cases e;exact y.1
   |bor l=>obtain⟨j,g,e,y,_⟩:=s;cases e;exact y.1
   |oq c l=>cases b
   |oo c l=>obtain⟨j,g,e,y,_⟩:=s;cases e;exact y.1
   |ob c l=>obtain⟨j,g,e,y,_⟩:=s;cases e;exact y.1
def K9(f:bC M B h S fr aj){as:List (Nat ⊕ V)}{sl:List Sl}{ds:List D}(nd:(b6 as).Nodup)(z:args fr as=some sl)(q:uQ h S aj as ds):bC (LB fr aj as) (LB fr aj as) h S (sl.map some) (ds.map some):=by
 have x:=LB.m f (as:=as);obtain⟨hl,G⟩:=args_get f z q;refine⟨λm y=>⟨(f.wS m y).1,λz=>(f.wS m y).2.1 (x m z),λz=>(f.wS m y).2.1 (x m z)⟩,λm y=>f.wM m (x m y),λm y=>f.wM m (x m y),by simp[hl],λa o p g l=>?_,λa b o o' m g l J K L N=>?_⟩
 .simp at g l;obtain⟨s,g,rfl⟩:=g;obtain⟨d,l,rfl⟩:=l;rcases G a s d g l with ⟨i,C,H,A⟩|⟨u,rfl,k⟩
  .obtain⟨m,P,l0,Q,F,I,W,Y,e⟩:=j9 H f;rw[A]at I;cases I;rcases e with ⟨e,Z,r⟩|⟨e,Z,r⟩
   .cases s<;>first
     | (simp only[Vd]at e;subst e;exact⟨m,P,rfl,⟨⟨i,Q,iK C,F,r,A⟩,⟨i,Q,iK C,F,r,A⟩⟩,W,Y⟩)
     |exact e.elim
   .cases s<;>first
     | (simp only[Ve]at e;subst e;exact⟨m,P,rfl,λz=>Z (x m z),W,Y⟩)
     |exact e.elim
  .exact⟨d,rfl,k⟩
 .simp at g l L N;obtain⟨s,g,rfl⟩:=g;obtain⟨s',l,rfl⟩:=l;rcases G a s _ g L with ⟨i,C,H,A⟩|⟨u,rfl,k⟩
  .rcases G b s' _ l N with ⟨j,k4,k5,k6⟩|⟨u,rfl,k⟩
   .obtain⟨m1,_,l1,o1,F,I,_,_,e⟩:=j9 H f;obtain⟨m2,_,l2,o2,x1,x2,_,_,x5⟩:=j9 k5 f;have i1:gX o1=true:=by rcases e with ⟨_,_,r⟩|⟨e,_,rfl⟩;exact r;exact J
    have i2:gX o2=true:=by rcases x5 with ⟨_,_,r⟩|⟨x5,_,rfl⟩;exact r;exact K
    have:=f.inj i j o1 o2 m F x1 i1 i2 A k6;subst this;exact o5 nd C k4
   .cases K
  .cases J
def GS{P:aS}{P':Ev.aS}(HP:rZ P P'){g:Nat}{as:List (Nat ⊕ V)}{ds:List D}(e:gM P g as fr=.ok v af)(f:bC M B h S fr aj)(q:uQ h S aj as ds) :
  ∃d h' S',P' g ds h=.ok d h'/\Rep h' S' v d/\Out M B (b6 as) h S fr aj h' S' af:=by
 unfold gM at e;split at e
 case isFalse=>cases e
 rename_i nd;cases z:args fr as with
 |none=>rw[z]at e;cases e
 |some sl=>
 rw[z]at e;simp only at e;cases z2:P g sl with
 |none=>rw[z2]at e;cases e
 |some vo=>
 obtain⟨v',os⟩:=vo;rw[z2]at e;simp only at e;cases z3:back (b6 as) os fr with
 |none=>rw[z3]at e;cases e
 |some aq=>
 rw[z3]at e;simp at e;obtain⟨rfl,rfl⟩:=e;obtain⟨hl,hg⟩:=args_get f z q
 let B0:Nat->Prop:=LB fr aj as
 have W:∀m,B0 m->M m:=LB.m f;have F0:bC B0 B0 h S (sl.map some) (ds.map some):=K9 f nd z q;obtain⟨d,h',S',c1,c2,x,c4⟩:=HP g sl v' os z2 h S B0 ds F0;obtain⟨b1,b2,b3⟩:=xF z3 nd;have hL:=o6 f z q c4;have N:∀m,S m->h'[m]?=h[m]?:=λm y=>x.keep m (f.wS m y).1 (λz=>(f.wS m y).2.1 (W m z));refine⟨d,h',S',c1,c2,⟨?_,?_,?_⟩⟩
 .refine⟨λm y=>?_,λm y=>aaa (f.wM m y) x.len,λm y=>aaa (f.wB m y) x.len,by rw[b1,f.len],λi o p C G=>?_,λi j o o' m C G y3 y4 y5 y6=>?_⟩
  .rcases x.new m y with y|⟨C,G⟩
   .exact⟨aaa (f.wS m y).1 x.len,(f.wS m y).2⟩
   .exact⟨G,λz=>by have:=f.wM m z;omega,λz=>by have:=f.wB m z;omega⟩
  .by_cases J:i∈b6 as
   .obtain⟨k,s,l,r,A,H,w4⟩:=b3 i J;rw[w4]at C;cases C;obtain⟨m,cs,s',Y,K,I,F⟩:=hL k i l r A;rw[K]at G;cases G;simp only[lent,H]at Y;have b:=f.sl i _ _ H K;cases s with
    |val u=>
     exfalso;have:∃s,lent fr i=some s:=nh z J;obtain⟨s,hs⟩:=this;simp[lent,H,Sl.lend]at hs
    |own u=>cases Y;obtain⟨Z,a,e,y,_⟩:=b;cases e;exact⟨m,cs,rfl,y,I,F⟩
    |bor u=>cases Y;obtain⟨Z,a,e,y,_⟩:=b;cases e;exact⟨m,cs,rfl,y,I,F⟩
    |ro u=>
     obtain⟨Z,a,e,y,C,G⟩:=b;cases e;refine⟨m,a,rfl,y,?_,G.mono N x.sub⟩;rw[x.keep m (List.getElem?_eq_some_iff.mp C).1 (λz=>y (W m z))];exact C
    |oo c u=>cases Y;obtain⟨Z,a,e,y,_⟩:=b;cases e;exact⟨m,cs,rfl,y,I,F⟩
    |ob c u=>cases Y;obtain⟨Z,a,e,y,_⟩:=b;cases e;exact⟨m,cs,rfl,y,I,F⟩
    |oq c u=>
     obtain⟨Z,a,e,y,C,G⟩:=b;cases e;refine⟨m,a,rfl,y,?_,G.mono N x.sub⟩;rw[x.keep m (List.getElem?_eq_some_iff.mp C).1 (λz=>y (W m z))];exact C
   .rw[b2 i J]at C;have b:=f.sl i o p C G;rcases o with _|s
    .exact b
    .cases s with
     |val u=>obtain⟨d,e,q⟩:=b;exact⟨d,e,q.mono N x.sub⟩
     |own u=>
      obtain⟨m,a,rfl,r,A,H⟩:=b;refine⟨m,a,rfl,r,?_,H.mono N x.sub⟩;rw[x.keep m (f.wM m r.1) (λ⟨j,Q,K,I,F,L⟩=>J (f.inj i j _ Q m C I rfl F G L▸K))];exact A
     |bor u=>
      obtain⟨m,a,rfl,r,A,H⟩:=b;refine⟨m,a,rfl,r,?_,H.mono N x.sub⟩;rw[x.keep m (f.wM m r.1) (λ⟨j,Q,K,I,F,L⟩=>J (f.inj i j _ Q m C I rfl F G L▸K))];exact A
     |ro u=>
      obtain⟨m,a,rfl,r,A,H⟩:=b;refine⟨m,a,rfl,r,?_,H.mono N x.sub⟩;rw[x.keep m (List.getElem?_eq_some_iff.mp A).1 (λz=>r (W m z))];exact A
     |oo c u=>
      obtain⟨m,a,rfl,r,A,H⟩:=b;refine⟨m,a,rfl,r,?_,H.mono N x.sub⟩;rw[x.keep m (f.wM m r.1) (λ⟨j,Q,K,I,F,L⟩=>J (f.inj i j _ Q m C I rfl F G L▸K))];exact A
     |ob c u=>
      obtain⟨m,a,rfl,r,A,H⟩:=b;refine⟨m,a,rfl,r,?_,H.mono N x.sub⟩;rw[x.keep m (f.wM m r.1) (λ⟨j,Q,K,I,F,L⟩=>J (f.inj i j _ Q m C I rfl F G L▸K))];exact A
     |oq c u=>
      obtain⟨m,a,rfl,r,A,H⟩:=b;refine⟨m,a,rfl,r,?_,H.mono N x.sub⟩;rw[x.keep m (List.getElem?_eq_some_iff.mp A).1 (λz=>r (W m z))];exact A
  .have kind:∀(i:Nat) o,aq[i]?=some o->gX o=true->∃o0,fr[i]?=some o0/\gX o0=true:=λi o r A=>by
    by_cases J:i∈b6 as
    .obtain⟨k,s,l,K,I,F,L⟩:=b3 i J;rw[L]at r;cases r;exact⟨_,F,by rw[GR]at A;exact A⟩
    .rw[b2 i J]at r;exact⟨o,r,A⟩
   obtain⟨oi,k1,k2⟩:=kind i o C y3;obtain⟨oj,k3,k4⟩:=kind j o' G y4;exact f.inj i j oi oj m k1 k3 k2 k4 y5 y6
 .exact x.weak λm z=>⟨W m z,by obtain⟨i,o,a1,a2,a3,a4⟩:=z;exact⟨i,a1,a4⟩⟩
 .intro i;unfold locked;by_cases J:i∈b6 as
  .obtain⟨k,s,l,K,I,F,L⟩:=b3 i J;rw[F,L];exact tQ
  .rw[b2 i J]
end
end Pv
namespace Pv
open Ev (D O Hh)
end Pv
namespace Pv
open Ev (D O Hh bV bR TY BI ME T E Es Eo It S Ss Fn big deep b2i rep cG eV bU bg cut cX br slots bO)
section
variable{M B:Nat->Prop}{h h' h1 h2:Hh}{S S' S1 S2:Nat->Prop}{fr af aq:Fr}{aj:Ev.Fr}{c:List Nat}{v:V}{d:D}
def jQ:(∀d,aM (.c d)=[])/\(∀i,aM (.v i)=[])/\(∀es,aM (.tup es)=cW es)/\(∀es,aM (.lst es)=cW es)/\(∀o a b,aM (.bin o a b)=aM a++aM b)/\(∀o a b,aM (.cmp o a b)=aM a++aM b)
 /\(∀a,aM (.nt a)=aM a)/\(∀a,aM (.neg a)=aM a)/\(∀a b,aM (.an a b)=aM a++aM b)/\(∀a b,aM (.orr a b)=aM a++aM b)/\(∀t a b,aM (.fW t a b)=aM t++(aM a++aM b))
 /\(∀a b,aM (.ix a b)=aM a++aM b)/\(∀a lo hi,aM (.sl a lo hi)=aM a++(iY lo++iY hi))
 /\(∀f es,aM (.cl f es)=cW es++jE es)/\(∀f es,aM (.bi f es)=cW es)/\(∀m o es,aM (.me m o es)=aM o++(cW es++II m o))
 /\(∀a k,aM (.nP a k)=aM a++aM k)
 /\(∀a b c d es,aM (.fu a b c d es)=cW es)/\(∀a b i c es,aM (.fm a b i c es)=cW es++[i])
 /\(∀a,aM (.jT a)=aM a):=by and_intros<;>intros<;>rfl
def fL{n m:Nat}{o:O}(q:n≠m):(h.set n o)[m]?=h[m]?:=Uk q
def bC.mM(f:bC M B h S fr aj){i n:Nat}{o:Option Sl}(e:fr[i]?=some o)(hM:gX o=true)(e':aj[i]?=some (some (.ref n))):M n:=by
 have s:=f.sl i o _ e e';rcases o with _|g
 .cases hM
 .cases g with
  |val v=>cases hM
  |ro l=>cases hM
  |own l=>obtain⟨b,a,e,y,_⟩:=s;cases e;exact y.1
  |bor l=>obtain⟨b,a,e,y,_⟩:=s;cases e;exact y.1
  |oq c l=>cases hM
  |oo c l=>obtain⟨b,a,e,y,_⟩:=s;cases e;exact y.1
  |ob c l=>obtain⟨b,a,e,y,_⟩:=s;cases e;exact y.1
def bC.write(f:bC M B h S fr aj){i n:Nat}{s:Sl}{l':List V}{ds':List D}(e:fr[i]?=some (some s))(hM:gX (some s)=true)(e':aj[i]?=some (some (.ref n)))(q:ak h S l' ds') :
  bC M B (h.set n (oO s ds')) S (fr.set i (some (s.with l'))) aj:=by
 have G:=f.mM e hM e';have kp:∀m,S m->(h.set n (oO s ds'))[m]?=h[m]?:=λm z=>fL λy=>(f.wS m z).2.1 (y▸G);have J:=(List.getElem?_eq_some_iff.mp e).1;refine⟨λm y=>by simpa using f.wS m y,λm y=>by simpa using f.wM m y,λm y=>by simpa using f.wB m y,by simp[f.len],λj o p A C=>?_,λj k o K m A C L N P Q=>?_⟩
 .by_cases F:i=j
  .subst F;rw[aad J]at A;cases A;rw[e']at C;cases C;have a:=f.sl i _ _ e e';have H:(h.set n (oO s ds'))[n]?=some (oO s ds'):=aad (f.wM n G);cases s with
   |val v=>cases hM
   |ro l=>cases hM
   |own l=>obtain⟨I,_,e,y,_⟩:=a;cases e;exact⟨n,ds',rfl,y,H,q.mono kp λ_ z=>z⟩
   |bor l=>obtain⟨I,_,e,y,_⟩:=a;cases e;exact⟨n,ds',rfl,y,H,q.mono kp λ_ z=>z⟩
   |oq c l=>cases hM
   |oo c l=>obtain⟨I,_,e,y,_⟩:=a;cases e;exact⟨n,ds',rfl,y,H,q.mono kp λ_ z=>z⟩
   |ob c l=>obtain⟨I,_,e,y,_⟩:=a;cases e;exact⟨n,ds',rfl,y,H,q.mono kp λ_ z=>z⟩
  .rw[Uk F]at A;have a:=f.sl j o p A C;rcases o with _|W
   .exact a
   .cases W with
    |val u=>obtain⟨d,e,q⟩:=a;exact⟨d,e,q.mono kp λ_ z=>z⟩
    |own u=>
     obtain⟨m,r,rfl,b,g,x⟩:=a;refine⟨m,r,rfl,b,?_,x.mono kp λ_ z=>z⟩;rw[fL λ(z:n=m)=>F (f.inj i j _ _ n e A hM rfl e' (by rw[z];exact C))];exact g
    |bor u=>
     obtain⟨m,r,rfl,b,g,x⟩:=a;refine⟨m,r,rfl,b,?_,x.mono kp λ_ z=>z⟩;rw[fL λ(z:n=m)=>F (f.inj i j _ _ n e A hM rfl e' (by rw[z];exact C))];exact g
    |ro u=>
     obtain⟨m,r,rfl,b,g,x⟩:=a;refine⟨m,r,rfl,b,?_,x.mono kp λ_ z=>z⟩;rw[fL λ(z:n=m)=>b (z▸G)];exact g
    |oo c u=>
     obtain⟨m,r,rfl,b,g,x⟩:=a;refine⟨m,r,rfl,b,?_,x.mono kp λ_ z=>z⟩;rw[fL λ(z:n=m)=>F (f.inj i j _ _ n e A hM rfl e' (by rw[z];exact C))];exact g
    |ob c u=>
     obtain⟨m,r,rfl,b,g,x⟩:=a;refine⟨m,r,rfl,b,?_,x.mono kp λ_ z=>z⟩;rw[fL λ(z:n=m)=>F (f.inj i j _ _ n e A hM rfl e' (by rw[z];exact C))];exact g
    |oq c u=>
     obtain⟨m,r,rfl,b,g,x⟩:=a;refine⟨m,r,rfl,b,?_,x.mono kp λ_ z=>z⟩;rw[fL λ(z:n=m)=>b (z▸G)];exact g
 .have kind:∀(j:Nat) o,(fr.set i (some (s.with l')))[j]?=some o->gX o=true->∃o0,fr[j]?=some o0/\gX o0=true:=λj o b g=>by
   by_cases F:i=j
   .subst F;exact⟨_,e,hM⟩
   .rw[Uk F]at b;exact⟨o,b,g⟩
  obtain⟨X,Y,Z⟩:=kind j o A L;obtain⟨oj,k3,k4⟩:=kind k K C N;exact f.inj j k X oj m Y k3 Z k4 P Q
def O1{m:ME}{l l':List V}{xs:List V}{n:Nat}{ds es:List D}(z:lz m l xs=some (v,l'))(e:h[n]?=some (.lst ds))(q:ak h S l ds)(p:eZ h S xs es)(p':DV m=false->ak h S xs es)(hS:∀k,S k->k≠n) :
  ∃r ds',Ev.eF m (.ref n) es h=.ok r (h.set n (.lst ds'))/\Rep h S v r/\ak h S l' ds':=by
 unfold lz at z;split at z
 .have p':=p' rfl;split at z
  .rename_i k;cases z;simp only[ak]at p';obtain⟨d,_,rfl,a,rfl⟩:=p';refine⟨_,_,?_,rfl,q.append (.cons a .nil)⟩
   delta Ev.eF;dsimp only;simp only[e]
   rw[LV (by rw[<-q.length];exact k)]
  .cases z
 .split at z
  .rename_i k;cases z;obtain⟨d,rfl,a⟩:=p.one;simp only[bA]at a;obtain⟨n2,i,rfl,b,a⟩:=a;refine⟨_,_,?_,rfl,q.append a⟩
   delta Ev.eF;dsimp only;simp only[e,b]
   rw[LV (by rw[<-q.length,<-a.length];exact k)]
  .cases z
 .simp only[eZ]at p;subst p;split at z
  .rename_i x y;cases z;obtain⟨d,f,g⟩:=q.get y;refine⟨d,_,?_,g,q.dropLast⟩
   delta Ev.eF;dsimp only;simp only[e]
   rw[<-q.length,f]
  .cases z
 .cases z
theorem bC.set(f:bC M B h S fr aj){i:Nat}(e:put fr i (.val v)=some af)(q:Rep h S v d):bC M B h S af (aj.set i (some d))/\(∀j,locked af j=locked fr j)/\∀j,locked fr j=true->(aj.set i (some d))[j]?=aj[j]?:=by
 have J:af=fr.set i (some (.val v))/\locked fr i=false:=by
  unfold put at e;unfold locked;split at e
  .cases e
  .cases e
  .cases e
  .cases e
  .rename_i K L
    k3 k4
   cases e;refine⟨rfl,?_⟩;cases z:fr[i]? with
   |none=>rfl
   |some o=>
    rcases o with _|s
    .rfl
    .cases s with
     |bor l=>exact absurd z (K l)
     |ro l=>exact absurd z (L l)
     |ob c l=>exact absurd z (k3 c l)
     |oq c l=>exact absurd z (k4 c l)
     |_=>rfl
 obtain⟨rfl,y⟩:=J;have N:∀j,locked (fr.set i (some (.val v))) j=locked fr j:=λj=>by
  by_cases b:i=j
  .subst b;rw[y];unfold locked;by_cases r:i<fr.length
   .rw[aad r];rfl
   .rw[aar (by simpa using r)]
  .unfold locked;rw[Uk b]
 refine⟨⟨f.wS,f.wM,f.wB,by simp[f.len],λj o p a g=>?_,λj k o A m a g C F G H=>?_⟩,N,λj b=>?_⟩
 .by_cases b:i=j
  .subst b;have r:i<fr.length:=by have:=(List.getElem?_eq_some_iff.mp a).1;simpa using this
   rw[aad r]at a;rw[aad (by rw[<-f.len];exact r)]at g;cases a;cases g;exact⟨d,rfl,q⟩
  .rw[Uk b]at a g;exact f.sl j o p a g
 .have I:∀(j:Nat) o,(fr.set i (some (.val v)))[j]?=some o->gX o=true->i≠j:=λj o x P Q=>by
   subst Q;have r:i<fr.length:=by have:=(List.getElem?_eq_some_iff.mp x).1;simpa using this
   rw[aad r]at x;cases x;cases P
  have n1:=I j o a C;have n2:=I k A g F;rw[Uk n1]at a G;rw[Uk n2]at g H;exact f.inj j k o A m a g C F G H
 .have:i≠j:=λz=>by subst z;rw[y]at b;cases b
  rw[Uk this]
theorem bC.di:∀{is:List Nat}{vs:List V}{ds:List D}{fr af:Fr}{aj:Ev.Fr},bC M B h S fr aj->di is vs fr=some af->ak h S vs ds->∃bY,Ev.di is ds aj=some bY/\bC M B h S af bY/\(∀j,locked af j=locked fr j)/\∀j,locked fr j=true->bY[j]?=aj[j]?
 |[],[],ds,fr,af,aj,f,e,q=>by
  simp[Pv.di]at e;simp only[ak]at q;subst e q;exact⟨aj,rfl,f,λ_=>rfl,λ_ _=>rfl⟩
 |[],_ :: _,_,_,_,_,_,e,_=>by simp[Pv.di]at e
 |_ :: _,[],_,_,_,_,_,e,_=>by simp[Pv.di]at e
 |i :: is,v :: vs,ds,fr,af,aj,f,e,q=>by
  simp only[Pv.di,aah]at e;obtain⟨aq,l,o⟩:=e;simp only[ak]at q;obtain⟨d,A,rfl,p,r⟩:=q;obtain⟨f2,b,x⟩:=f.set l p;obtain⟨bY,a,f3,y,z⟩:=f2.di o r;exact⟨bY,a,f3,λj=>(y j).trans (b j),λj g=>(z j (by rw[b j];exact g)).trans (x j g)⟩
theorem bC.cS(f:bC M B h S fr aj){t:T}(e:cS t v fr=some af)(q:Rep h S v d):∃bY,Ev.cS t d aj=some bY/\bC M B h S af bY/\(∀j,locked af j=locked fr j)/\∀j,locked fr j=true->bY[j]?=aj[j]?:=by
 cases t with
 |one i=>exact⟨_,rfl,f.set e q⟩
 |many l=>
  cases v<;>simp only[Pv.cS,reduceCtorEq]at e
  simp only[Rep]at q;obtain⟨ds,rfl,q⟩:=q;exact f.di e q
theorem bC.undef(f:bC M B h S fr aj){t:T}(e:undef t fr=true):Ev.undef t aj=true:=by
 unfold Pv.undef at e;unfold Ev.undef;rw[List.all_eq_true]at e ⊢;intro i a;have:=e i a;cases z:fr[i]? with
 |none=>
  have:aj[i]?=none:=by
   rw[acj]at z ⊢;rw[<-f.len];exact z
  rw[this];rfl
 |some o=>
  obtain⟨p,b,q⟩:=f.get z;rw[z]at this;rcases o with _|s
  .simp only[kR]at q;subst q;rw[b];rfl
  .simp at this
def As{i:Nat}{o:Option Sl}(e:(uO fr)[i]?=some o):∃o0,fr[i]?=some o0/\o=o0.map Sl.read:=by
 unfold uO at e;rw[aaA]at e;cases z:fr[i]? with
 |none=>rw[z]at e;cases e
 |some o0=>rw[z]at e;cases e;exact⟨o0,rfl,rfl⟩
theorem bC.ro(f:bC M B h S fr aj):bC (λ_=>False) B h S (uO fr) aj:=by
 refine⟨λm y=>⟨(f.wS m y).1,id,(f.wS m y).2.2⟩,λm y=>y.elim,f.wB,by simp[uO,f.len],λi o p g r=>?_,λi j o A m g r x C F G=>?_⟩
 .obtain⟨e,z,rfl⟩:=As g;have q:=f.sl i e p z r;rcases e with _|s
  .exact q
  .cases s with
   |val v=>exact q
   |own l=>obtain⟨m,ds,a,b,c,d⟩:=q;exact⟨m,ds,a,id,c,d⟩
   |bor l=>obtain⟨m,ds,a,b,c,d⟩:=q;exact⟨m,ds,a,id,c,d⟩
   |ro l=>obtain⟨m,ds,a,b,c,d⟩:=q;exact⟨m,ds,a,id,c,d⟩
   |oo c l=>obtain⟨m,ds,a,b,c,d⟩:=q;exact⟨m,ds,a,id,c,d⟩
   |ob c l=>obtain⟨m,ds,a,b,c,d⟩:=q;exact⟨m,ds,a,id,c,d⟩
   |oq c l=>obtain⟨m,ds,a,b,c,d⟩:=q;exact⟨m,ds,a,id,c,d⟩
 .obtain⟨e,z,rfl⟩:=As g;rcases e with _|s
  .cases x
  .cases s<;>cases x
theorem kH:∀{ck:List (Nat×List D)},(∀q∈ck,Ev.gq h q.1=some q.2)->Ev.stays h ck=true
 |[],_=>rfl
 | (n,ds) :: r,q=>by
  simp only[Ev.stays,W2];refine⟨?_,kH λx a=>q x (aap _ a)⟩;rw[q (n,ds) (aaC ..)];exact Ev.Bq _
def pX{n:Nat}{ds:List D}(q:Ev.gq h n=some ds)(k:h'[n]?=h[n]?):Ev.gq h' n=some ds:=by
 unfold Ev.gq at q ⊢;rw[k];exact q
def vA{n:Nat}{ds:List D}(q:Ev.gq h n=some ds):n<h.length:=by
 unfold Ev.gq at q;cases z:h[n]? with
 |none=>rw[z]at q;cases q
 |some o=>exact(List.getElem?_eq_some_iff.mp z).1
def GU(h:Hh)(S:Nat->Prop):Option V->Option D->Prop
 |none,o=>o=none
 |some v,o=>∃d,o=some d/\Rep h S v d
theorem Au{f:V->Option (Option V)}{f':D->Hh->Ev.R (Option D)}{ck:List (Nat×List D)}{h0:Hh}{S0:Nat->Prop}(w0:∀m,S0 m->m<h0.length)(st:∀q∈ck,Ev.gq h0 q.1=some q.2)
  (turn:∀v o d h S,Al h0 S0 h S->f v=some o->Rep h S v d->∃o' h' S',f' d h=.ok o' h'/\GU h' S' o o'/\Al h S h' S') :
  ∀{vs:List V} {ds:List D} {rs:List V} {h:Hh} {S:Nat->Prop},Al h0 S0 h S->cZ f vs=some rs->ak h S vs ds->∃rs' h' S',Ev.cZ f' ck ds h=.ok rs' h'/\ak h' S' rs rs'/\Al h S h' S'
 |[],ds,rs,h,S,a,e,q=>by
  simp[cZ]at e;simp only[ak]at q;subst e q;refine⟨[],h,S,?_,.nil,.refl⟩;simp only[Ev.cZ];rw[LV (kH λx i=>pX (st x i) (a.keep _ (vA (st x i))))]
 |v :: vs,ds,rs,h,S,a,e,q=>by
  simp only[cZ,aah]at e;obtain⟨o,p,r,y,A⟩:=e;cases A;simp only[ak]at q;obtain⟨d,J,rfl,C,F⟩:=q;have w:∀m,S m->m<h.length:=λm z=>by
   rcases a.new m z with z|z
   .exact aaa (w0 m z) a.len
   .exact z.2
  obtain⟨o',h1,S1,G,b,g⟩:=turn v o d h S a p C;obtain⟨rs',h2,S2,H,l,j⟩:=Au w0 st turn (a.trans g) y (F.mono (λm z=>g.keep m (w m z)) g.sub);have I:∀m,S1 m->m<h1.length:=λm z=>by
   rcases g.new m z with z|z
   .exact aaa (w m z) g.len
   .exact z.2
  refine⟨o'.toList++rs',h2,S2,?_,?_,g.trans j⟩
  .simp only[Ev.cZ];rw[LV (kH λx i=>pX (st x i) (a.keep _ (vA (st x i)))),G,Ev.ao,H,Ev.ao]
  .cases o with
   |none=>simp only[GU]at b;subst b;simpa using l
   |some K=>
    simp only[GU]at b;obtain⟨L,rfl,b⟩:=b;exact .cons (b.mono (λm z=>j.keep m (I m z)) j.sub) l
end
def j0(k:Bool)(h:Hh)(S:Nat->Prop)(v:List V)(d:List D):Prop:=if k=true then eZ h S v d else ak h S v d
inductive O2(P':Ev.aS)(e:E)(k:Bool)(v:V)(M B:Nat->Prop)(h:Hh)(S:Nat->Prop)(fr:Fr)(aj:Ev.Fr)(af:Fr):Prop
 |mk (d:D) (h':Hh) (S':Nat->Prop) (c0:Ev.ev P' e aj h=.ok d h') (c1:gy k h' S' v d) (c2:Out M B (aM e) h S fr aj h' S' af):O2 P' e k v M B h S fr aj af
inductive O3(P':Ev.aS)(e:E)(b:Bool)(M B:Nat->Prop)(h:Hh)(S:Nat->Prop)(fr:Fr)(aj:Ev.Fr)(af:Fr):Prop
 |mk (h':Hh) (S':Nat->Prop) (c0:Ev.aN P' e aj h=.ok b h') (c1:Out M B (aM e) h S fr aj h' S' af):O3 P' e b M B h S fr aj af
inductive O4(P':Ev.aS)(e:Es)(k:Bool)(v:List V)(M B:Nat->Prop)(h:Hh)(S:Nat->Prop)(fr:Fr)(aj:Ev.Fr)(af:Fr):Prop
 |mk (d:List D) (h':Hh) (S':Nat->Prop) (c0:Ev.bL P' e aj h=.ok d h') (c1:j0 k h' S' v d) (c2:Out M B (cW e) h S fr aj h' S' af):O4 P' e k v M B h S fr aj af
inductive O5(P':Ev.aS)(e:Es)(v:List (Nat ⊕ V))(M B:Nat->Prop)(h:Hh)(S:Nat->Prop)(fr:Fr)(aj:Ev.Fr)(af:Fr):Prop
 |mk (d:List D) (h':Hh) (S':Nat->Prop) (c0:Ev.bL P' e aj h=.ok d h') (c1:uQ h' S' aj v d) (c2:Out M B (cW e) h S fr aj h' S' af):O5 P' e v M B h S fr aj af
inductive O6(P':Ev.aS)(e:Eo)(v:Option Int)(M B:Nat->Prop)(h:Hh)(S:Nat->Prop)(fr:Fr)(aj:Ev.Fr)(af:Fr):Prop
 |mk (h':Hh) (S':Nat->Prop) (c0:Ev.gk P' e aj h=.ok v h') (c1:Out M B (iY e) h S fr aj h' S' af):O6 P' e v M B h S fr aj af
inductive O7(P':Ev.aS)(e:Eo)(v:Bool)(M B:Nat->Prop)(h:Hh)(S:Nat->Prop)(fr:Fr)(aj:Ev.Fr)(af:Fr):Prop
 |mk (h':Hh) (S':Nat->Prop) (c0:Ev.iT P' e aj h=.ok v h') (c1:Out M B (iY e) h S fr aj h' S' af):O7 P' e v M B h S fr aj af
inductive O8(P':Ev.aS)(e:It)(k:Bool)(v:List V)(M B:Nat->Prop)(h:Hh)(S:Nat->Prop)(fr:Fr)(aj:Ev.Fr)(af:Fr):Prop
 |mk (s:Ev.Src) (h':Hh) (S':Nat->Prop) (c0:Ev.dj P' e aj h=.ok s h') (c1:ak h' S' v s.1) (c2:∀q∈s.2,Ev.gq h' q.1=some q.2/\(k=false->¬ M q.1)) (c3:Out M B (xw e) h S fr aj h' S' af):O8 P' e k v M B h S fr aj af
section
variable(P:aS)(P':Ev.aS)
def bM(e:E):Prop:=∀{k:Bool} {fr:Fr} {v:V} {af:Fr} {M B:Nat->Prop} {h:Hh} {S:Nat->Prop} {aj:Ev.Fr},ev P k e fr=.ok v af->bC M B h S fr aj->O2 P' e k v M B h S fr aj af
def iA(e:E):Prop:=∀{fr:Fr} {b:Bool} {af:Fr} {M B:Nat->Prop} {h:Hh} {S:Nat->Prop} {aj:Ev.Fr},aN P e fr=.ok b af->bC M B h S fr aj->O3 P' e b M B h S fr aj af
def jb(e:Es):Prop:=∀{k:Bool} {fr:Fr} {v:List V} {af:Fr} {M B:Nat->Prop} {h:Hh} {S:Nat->Prop} {aj:Ev.Fr},bL P k e fr=.ok v af->bC M B h S fr aj->O4 P' e k v M B h S fr aj af
def r8(e:Es):Prop:=∀{fr:Fr} {v:List (Nat ⊕ V)} {af:Fr} {M B:Nat->Prop} {h:Hh} {S:Nat->Prop} {aj:Ev.Fr},gm P e fr=.ok v af->bC M B h S fr aj->O5 P' e v M B h S fr aj af
def sd(e:Eo):Prop:=∀{fr:Fr} {v:Option Int} {af:Fr} {M B:Nat->Prop} {h:Hh} {S:Nat->Prop} {aj:Ev.Fr},gk P e fr=.ok v af->bC M B h S fr aj->O6 P' e v M B h S fr aj af
def vC(e:Eo):Prop:=∀{fr:Fr} {v:Bool} {af:Fr} {M B:Nat->Prop} {h:Hh} {S:Nat->Prop} {aj:Ev.Fr},iT P e fr=.ok v af->bC M B h S fr aj->O7 P' e v M B h S fr aj af
def ni(e:It):Prop:=∀{k:Bool} {fr:Fr} {v:List V} {af:Fr} {M B:Nat->Prop} {h:Hh} {S:Nat->Prop} {aj:Ev.Fr},dj P k e fr=.ok v af->bC M B h S fr aj->O8 P' e k v M B h S fr aj af
end
section
variable{P:aS}{P':Ev.aS}{a b e tt:E}{es:Es}{lo hi:Eo}{it:It}
def O9{d:D}:bM P P' (.c d):=λz f=>by
 simp only[ev]at z;replace z:=aF z;obtain⟨z,g⟩:=z;subst g;exact⟨d,_,_,by simp only[Ev.ev],.of (oY z),.refl f⟩
def Pa{i:Nat}:bM P P' (.v i):=λz f=>by
 simp only[ev]at z;replace z:=aF z;obtain⟨z,c⟩:=z;subst c;obtain⟨d,g,q⟩:=K8 z f;exact⟨d,_,_,by simp only[Ev.ev,g,Ev.cR],q,.refl f⟩
def j0.n{h:Hh}{S:Nat->Prop}{v:List V}{d:List D}(q:j0 false h S v d):ak h S v d:=by simpa[j0]using q
theorem ak.tl{h:Hh}{S:Nat->Prop}:∀{v:List V}{d:List D},ak h S v d->eZ h S v d
 |[],_,q=>q
 |_ :: _,_,⟨d,es,a,b,q⟩=>⟨d,es,a,b.top,q.tl⟩
def j0.t{k:Bool}{h:Hh}{S:Nat->Prop}{v:List V}{d:List D}(q:j0 k h S v d):eZ h S v d:=by
 unfold j0 at q;split at q
 .exact q
 .exact q.tl
def DZ(is:jb P P' es):bM P P' (.tup es):=λz f=>by
 simp only[ev]at z;obtain⟨ds,p,g,c⟩:=ai z;replace c:=aF c;obtain⟨c,h⟩:=c;subst h;obtain⟨d,i,S',j,q,o⟩:=is g f;unfold kE at c;split at c
 .rename_i l;cases c;refine⟨.tup d,i,S',?_,.of ⟨d,rfl,q.n⟩,o⟩;simp only[Ev.ev,j,Ev.ao];rw[LV (by rw[<-q.n.length];exact l)]
 .cases c
def D0(is:jb P P' es):bM P P' (.lst es):=λz f=>by
 simp only[ev]at z;obtain⟨ds,y,d,c⟩:=ai z;replace c:=aF c;obtain⟨c,g⟩:=c;subst g;obtain⟨h,A,S',i,q,o⟩:=is d f;obtain⟨r,j,S2,l,p,x⟩:=gx o.f.w c q.n;exact⟨r,j,S2,by simp only[Ev.ev,i,Ev.ao,l],.of p,o.al x⟩
def vD{a:E}{aj:Ev.Fr}{h h1:Hh}{d:D}(e:Ev.ev P' a aj h=.ok d h1):∀i,a=.v i->aj[i]?.join=some d:=λi hi=>by
 subst hi;simp only[Ev.ev]at e;exact(Ev.aF e).1
def two(ia:bM P P' a)(ib:bM P P' b){α:Type}{X:V->V->Fr->R α}{u:α}{fr bK:Fr}{M B:Nat->Prop}{h:Hh}{S:Nat->Prop}{aj:Ev.Fr}
  (z:((ev P (kf a (aM b)) a fr).bind λx af=>(ev P true b af).bind λy aq=>X x y aq)=.ok u bK) (f:bC M B h S fr aj) :
  ∃x y d e h2 S2 aq,(∀{β:Type} (g:D->D->Hh->Ev.R β),((Ev.ev P' a aj h).bind λx h1=>(Ev.ev P' b aj h1).bind λy h2=>g x y h2)=g d e h2)/\X x y aq=.ok u bK/\bA h2 S2 x d/\bA h2 S2 y e/\Out M B (aM a++aM b) h S fr aj h2 S2 aq:=by
 replace z:=ai z;obtain⟨x,af,l,z⟩:=z;replace z:=ai z;obtain⟨y,aq,o,z⟩:=z;obtain⟨d,h1,S1,i,p,c⟩:=ia l f;obtain⟨e,h2,S2,q,r,j⟩:=ib o c.f;exact⟨x,y,d,e,h2,S2,aq,λg=>by rw[i,Ev.ao,q,Ev.ao],z,(p.tr c.f j.tr id (vD i)).t,r.t,c.trans j⟩
def D3{o:bV}(ia:bM P P' a)(ib:bM P P' b):bM P P' (.bin o a b):=λz f=>by
 simp only[ev]at z;replace z:=two ia ib z f;obtain⟨x,y,d,e,A,S2,B,k,z,g,h,c⟩:=z;replace z:=aF z;obtain⟨z,i⟩:=z;subst i;obtain⟨r,j,S3,l,p,q⟩:=OR c.f.w z g h;exact⟨r,j,S3,by simp only[Ev.ev];rw[k];exact l,.of p,c.al q⟩
def D4{o:bR}(ia:bM P P' a)(ib:bM P P' b):bM P P' (.cmp o a b):=λz f=>by
 simp only[ev]at z;replace z:=two ia ib z f;obtain⟨x,y,d,e,c,S2,l,k,z,g,h,i⟩:=z;replace z:=aF z;obtain⟨z,j⟩:=z;subst j;simp only[aab]at z;obtain⟨b,z,rfl⟩:=z;exact⟨.bl b,c,S2,by simp only[Ev.ev];rw[k,OS z g.u h.u];rfl,.of rfl,i⟩
def IM(ia:bM P P' a)(ib:bM P P' b):bM P P' (.ix a b):=λz f=>by
 simp only[ev]at z;replace z:=two ia ib z f;obtain⟨x,y,d,e,c,S2,p,k,z,g,h,i⟩:=z;replace z:=aF z;obtain⟨z,j⟩:=z;subst j;obtain⟨r,l,o⟩:=OT z g h;exact⟨r,c,S2,by simp only[Ev.ev];rw[k,l];rfl,.of o,i⟩
def La{x y v:V}{d e:D}{h:Hh}{S:Nat->Prop}(z:xu x y=some v)(p:bA h S x d)(q:bA h S y e):∃r,Ev.wg d e h=some r/\Rep h S v r:=by
 unfold xu at z;split at z
 .simp only[bA,Rep]at p q;obtain⟨n,rfl,_,p⟩:=p;subst q;obtain⟨s,c,z⟩:=Option.bind_eq_some_iff.mp z;split at z
  .cases z
  .rename_i f;cases z;exact⟨.str s,by simp[Ev.wg,p,c,f],rfl⟩
 .cases z
def D5(ia:bM P P' a)(ib:bM P P' b):bM P P' (.nP a b):=λz f=>by
 simp only[ev]at z;replace z:=two ia ib z f;obtain⟨x,y,d,e,c,S2,p,k,z,g,h,i⟩:=z;replace z:=aF z;obtain⟨z,j⟩:=z;subst j;obtain⟨r,l,o⟩:=La z g h;exact⟨r,c,S2,by simp only[Ev.ev];rw[k,l];rfl,.of o,i⟩
def D6{kvs:List (List Nat×List Nat)}:bM P P' (.nN kvs):=λ{k fr v af M B h S aj} z f=>by
 simp only[ev]at z;split at z
 .cases z
 .rename_i c;cases z;exact⟨.ref h.length,h++[.fj kvs],λm=>S m\/m=h.length,by simp only[Ev.ev];rw[aaj c],.of ⟨h.length,rfl,.inr rfl,by simp⟩,(Out.refl f).al (Al.snoc _)⟩
def TJ(ia:bM P P' a):bM P P' (.nt a):=λz f=>by
 simp only[ev]at z;replace z:=ai z;obtain⟨x,l,c,z⟩:=z;obtain⟨d,g,S1,h,i,j⟩:=ia c f;cases x<;>simp only[reduceCtorEq]at z
 cases z;have q:=i.t;simp only[bA,Rep]at q;subst q;exact⟨_,g,S1,by simp only[Ev.ev,h,Ev.ao],.of rfl,j⟩
def D7(ia:bM P P' a):bM P P' (.neg a):=λz f=>by
 simp only[ev]at z;replace z:=ai z;obtain⟨x,l,c,z⟩:=z;obtain⟨d,g,S1,h,i,j⟩:=ia c f;cases x<;>simp only[reduceCtorEq]at z
 cases z;have q:=i.t;simp only[bA,Rep]at q;subst q;exact⟨_,g,S1,by simp only[Ev.ev,h,Ev.ao],.of rfl,j⟩
def TL(ia:bM P P' a)(ib:bM P P' b):bM P P' (.an a b):=λz f=>by
 simp only[ev]at z;replace z:=ai z;obtain⟨x,A,h,z⟩:=z;obtain⟨d,j,S1,g,l,c⟩:=ia h f;cases x<;>try (cases z;done)
 rename_i k;have q:=l.t;simp only[bA,Rep]at q;subst q;cases k with
 |true=>
  try simp only at z
  obtain⟨d,o,S2,p,r,y⟩:=ib z c.f;exact⟨d,o,S2,by simp only[Ev.ev,g,Ev.ao,p],r,c.trans y⟩
 |false=>
  try simp only at z
  cases z;exact⟨_,j,S1,by simp only[Ev.ev,g,Ev.ao],.of rfl,c.weak (by simp only[jQ];intro i hi;simp[hi])⟩
def Pb(ia:bM P P' a)(ib:bM P P' b):bM P P' (.orr a b):=λz f=>by
 simp only[ev]at z;replace z:=ai z;obtain⟨x,A,h,z⟩:=z;obtain⟨d,j,S1,g,l,c⟩:=ia h f;cases x<;>try (cases z;done)
 rename_i k;have q:=l.t;simp only[bA,Rep]at q;subst q;cases k with
 |false=>
  try simp only at z
  obtain⟨d,o,S2,p,r,y⟩:=ib z c.f;exact⟨d,o,S2,by simp only[Ev.ev,g,Ev.ao,p],r,c.trans y⟩
 |true=>
  try simp only at z
  cases z;exact⟨_,j,S1,by simp only[Ev.ev,g,Ev.ao],.of rfl,c.weak (by simp only[jQ];intro i hi;simp[hi])⟩
def D8(it:iA P P' tt)(ia:bM P P' a)(ib:bM P P' b):bM P P' (.fW tt a b):=λz f=>by
 simp only[ev]at z;replace z:=ai z;obtain⟨k,q,p,z⟩:=z;obtain⟨r,S1,o,c⟩:=it p f;cases k with
 |true=>
  simp only[aax]at z;obtain⟨d,g,S2,h,j,l⟩:=ia z c.f;exact⟨d,g,S2,by simp only[Ev.ev,o,Ev.ao,aax,h],j,(c.trans l).weak (by simp only[jQ];intro i hi;simp at hi ⊢;rcases hi with hi|hi<;>simp[hi])⟩
 |false=>
  simp only[aay,aaZ]at z;obtain⟨d,g,S2,h,j,l⟩:=ib z c.f;exact⟨d,g,S2,by simp only[Ev.ev,o,Ev.ao];rw[aaj (by decide)];exact h,j,(c.trans l).weak (by simp only[jQ];intro i hi;simp at hi ⊢;rcases hi with hi|hi<;>simp[hi])⟩
def IP(ia:bM P P' a)(il:sd P P' lo)(ih:sd P P' hi):bM P P' (.sl a lo hi):=λz f=>by
 simp only[ev]at z;replace z:=ai z;obtain⟨x,J,j,z⟩:=z;replace z:=ai z;obtain⟨l,K,o,z⟩:=z;replace z:=ai z;obtain⟨u,L,p,z⟩:=z;replace z:=aF z;obtain⟨z,y⟩:=z;subst y;obtain⟨d,M,S1,i,A,c⟩:=ia j f;obtain⟨N,S2,B,g⟩:=il o c.f;obtain⟨Q,S3,C,h⟩:=ih p g.f;have q:=(A.tr c.f (g.trans h).tr id (vD i)).t;obtain⟨r,F,S4,G,H,I⟩:=OU h.f.w z q;exact⟨r,F,S4,by simp only[Ev.ev,i,Ev.ao,B,C,G],.of H,(c.trans (g.trans h)).al I⟩
theorem o7:∀{es:Es}{fr af:Fr}{as:List (Nat ⊕ V)},gm P es fr=.ok as af->∀i∈b6 as,i∈jE es
 |.nil,_,_,_,z=>by simp only[gm]at z;cases z;simp[b6]
 |.cons e es,fr,af,as,z=>by
  simp only[gm]at z;cases y:mE fr e with
  |some i=>
   rw[y]at z;simp only at z;replace z:=ai z;obtain⟨f,g,d,z⟩:=z;cases z;have h:e=.v i:=by
    cases e<;>simp only[mE,reduceCtorEq]at y
    split at y
    .cases y;rfl
    .cases y
   subst h;intro j c;simp only[b6,acV]at c;simp only[jE,acV];exact c.imp id λc=>o7 d j c
  |none=>
   rw[y]at z;simp only at z;replace z:=ai z;obtain⟨x,l,o,z⟩:=z;replace z:=ai z;obtain⟨f,g,d,z⟩:=z;cases z;intro j c;simp only[b6]at c;have:=o7 d j c;cases e<;>simp only[jE]<;>first|exact this|exact aap _ this
def IQ(HP:rZ P P'){g:Nat}(is:r8 P P' es):bM P P' (.cl g es):=λz f=>by
 simp only[ev]at z;replace z:=ai z;obtain⟨x,y,c,z⟩:=z;obtain⟨ds,A,S1,j,l,h⟩:=is c f;obtain⟨d,o,S2,p,q,r⟩:=GS HP z h.f l;exact⟨d,o,S2,by simp only[Ev.ev,j,Ev.ao,p],.of q,(h.trans r).weak (by
  simp only[jQ];intro i hi;rcases List.mem_append.mp hi with hi|hi
  .exact List.mem_append.mpr (.inl hi)
  .exact List.mem_append.mpr (.inr (o7 c i hi)))⟩
def IS{g:BI}(is:jb P P' es):bM P P' (.bi g es):=λz f=>by
 simp only[ev]at z;replace z:=ai z;obtain⟨x,y,d,z⟩:=z;replace z:=aF z;obtain⟨z,h⟩:=z;subst h;obtain⟨ds,A,S1,i,j,c⟩:=is d f;obtain⟨r,l,S4,o,p,q⟩:=OW c.f.w z j.t;exact⟨r,l,S4,by simp only[Ev.ev,i,Ev.ao,o],.of p,c.al q⟩
def D9(ia:bM P P' a):bM P P' (.jT a):=λz f=>by
 simp only[ev]at z;replace z:=ai z;obtain⟨x,q,c,z⟩:=z;replace z:=aF z;obtain⟨z,g⟩:=z;subst g;obtain⟨d,h,S1,i,j,l⟩:=ia c f;obtain⟨r,o,p⟩:=OV z j.t;exact⟨r,h,S1,by simp only[Ev.ev,i,Ev.ao,o],.of p,l⟩
def IT{m:ME}{o:E}(io:bM P P' o)(is:jb P P' es):bM P P' (.me m o es):=λ{k fr v af M B h S aj} z f=>by
  simp only[ev]at z;by_cases J:jy m=true
  . rw[LV J]at z;cases y:mE fr o with
    |none=>rw[y]at z;cases z
    |some i=>
    rw[y]at z;try simp only at z
    replace z:=ai z;obtain⟨as,aq,z1,z⟩:=z;have hy:o=.v i/\∃s,lent fr i=some s:=by
      cases o<;>simp only[mE,reduceCtorEq]at y
      rename_i j;split at y
      . rename_i hs;cases y;exact⟨rfl,Option.isSome_iff_exists.mp hs⟩
      . cases y
    obtain⟨rfl,s,hs⟩:=hy;obtain⟨n,Z,_,_,_,K,L,_,_⟩:=j9 hs f;obtain⟨ds,W,S1,X,G,c⟩:=is z1 f;replace L:∃Z,h[n]?=some (.lst Z):=by
      cases s<;>first
        |exact⟨Z,L⟩
        | (exfalso
           have H:=c.tr.cls n (List.getElem?_eq_some_iff.mp L).1;rw[L]at H;split at z
           . rename_i A;obtain⟨p,C,I,g,rfl,_,F,N⟩:=c.f.get A;rw[K]at C;cases C;rw[F]at H;cases H
           . rename_i A;obtain⟨p,C,I,g,rfl,_,F,N⟩:=c.f.get A;rw[K]at C;cases C;rw[F]at H;cases H
           . cases z)
    obtain⟨Z,L⟩:=L;have hr:Ev.nR m (.ref n) h=true:=by cases m<;>simp[jy]at J<;>simp[Ev.nR,iZ L]
    have hap:DV m=false->ak W S1 as ds:=λhh=>by rw[hh]at G;exact G.n
    have fin:∀s l l',aq[i]?=some (some s)->gX (some s)=true->(∀ds,oO s ds=.lst ds)->(∃I g,aj[i]?=some (some (.ref I))/\W[I]?=some (.lst g)/\ak W S1 l g)->lz m l as=some (v,l')->af=aq.set i (some (s.with l'))->
        O2 P' (.me m (.v i) es) k v M B h S fr aj af:=by
      intro s l l' A C k0 ⟨I,g,k3,F,N⟩ Y k7;rw[K]at k3;cases k3;have mn:=c.f.mM A C K;obtain⟨r,ds',a1,a2,a3⟩:=O1 Y F N G.t hap λk z y=>(c.f.wS k z).2.1 (y▸mn);have fw:=c.f.write (l':=l') A C K a3;subst k7;refine⟨r,_,S1,?_,.of (a2.mono (λm z=>fL λy=>(c.f.wS m z).2.1 (y▸mn)) λ_ z=>z),fw,?_,λj=>?_⟩
      . simp only[Ev.ev,K,Option.join,Ev.cR,Ev.ao,hr,aax,X];simp only[Option.bind,id,Ev.cR,Ev.ao,hr,aax,X];rw[k0];exact a1
      . refine⟨by simpa using c.tr.len,λm H y2=>?_,c.tr.sub,λm y=>by simpa using c.tr.new m y
          ,?_
          ⟩
        rotate_left
        . intro m H;rw[<-c.tr.cls m H];by_cases J:n=m
          . subst J;rw[aad (List.getElem?_eq_some_iff.mp F).1,F,k0];rfl
          . rw[fL J]
        have y3:¬ Xs M aj (cW es) m:=λz=>y2 (Xs.mono (by simp only[jQ];intro i hi;simp[hi]) z);have y4:m≠n:=λz=>y2 ⟨z▸mn,i,by simp[jQ,II,J],by rw[z];exact K⟩;rw[fL (λ(z:n=m)=>y4 z.symm)];exact c.tr.keep m H y3
      . rw[<-c.lk j];unfold locked;by_cases hj:i=j
        . subst hj;rw[aad (List.getElem?_eq_some_iff.mp A).1,A];exact tQ
        . rw[Uk hj]
    split at z
    . rename_i l A;have Q:=c.f.get A;obtain⟨p,C,I,g,rfl,_,F,N⟩:=Q;split at z
      . rename_i v' l' Y;cases z;exact fin _ l l' A rfl (λ_=>rfl) ⟨I,g,C,F,N⟩ Y rfl
      . cases z
    . rename_i l A;have Q:=c.f.get A;obtain⟨p,C,I,g,rfl,_,F,N⟩:=Q;split at z
      . rename_i v' l' Y;cases z;exact fin _ l l' A rfl (λ_=>rfl) ⟨I,g,C,F,N⟩ Y rfl
      . cases z
    . cases z
  . rw[aaj J]at z;replace z:=ai z;obtain⟨x,aq,z1,z⟩:=z;replace z:=ai z;obtain⟨as,cI,z2,z⟩:=z;replace z:=aF z;obtain⟨z,y0⟩:=z;subst y0;obtain⟨d,W,S1,X,G,c⟩:=io z1 f;obtain⟨ds,h2,S2,e2,q2,o2⟩:=is z2 c.f;have hm':jy m=false:=by simpa using J
    have uK:=(G.tr c.f o2.tr id (vD X)).t;obtain⟨a1,r,a2,a3⟩:=OY z hm' uK q2.t;have hr:Ev.nR m d W=true:=by
      unfold eF at z;split at z
      . have:=G.t;simp only[bA,Rep]at this;subst this;rfl
      . simp only[aab,aah]at z;obtain⟨_,⟨l,z,_⟩,_⟩:=z;obtain⟨n,es,rfl,a,q⟩:=fY z G.t;simp[Ev.nR,a]
      . simp only[aab,aah]at z;obtain⟨_,⟨l,z,_⟩,_⟩:=z;obtain⟨n,es,rfl,a,q⟩:=fY z G.t;simp[Ev.nR,a]
      . simp only[aab,aah]at z;obtain⟨_,⟨l,z,_⟩,_⟩:=z;obtain⟨n,es,rfl,a,q⟩:=fY z G.t;simp[Ev.nR,a]
      . cases z
    exact⟨r,h2,S2,by simp only[Ev.ev,X,Ev.ao,hr,aax,e2,a2],.of a3,(c.trans o2).weak (by simp only[jQ];intro i hi;simp at hi ⊢;rcases hi with hi|hi<;>simp[hi])⟩
def se{c:Ev.Cl}{i:Nat}{l:List V}{fr:Fr}{M B:Nat->Prop}{h:Hh}{S:Nat->Prop}{aj:Ev.Fr}(e:kG c fr[i]?=some l)(f:bC M B h S fr aj):∃n ds,Ev.ku c h aj[i]?.join=some (n,ds)/\ak h S l ds:=by
 have g:∀d,d=c->∀n ds,h[n]?=some (.obj d ds)->Ev.ku c h (some (.ref n))=some (n,ds):=λd e n ds q=>by subst e;simp[Ev.ku,q]
 unfold kG at e;split at e
 case h_4=>cases e
 all_goals
  rename_i d r z;split at e
  case isFalse=>cases e
  rename_i j;cases e;obtain⟨p,o,n,ds,rfl,_,y,q⟩:=f.get z;exact⟨n,ds,by rw[o];exact g _ j n ds y,q⟩
def Pc{c:Ev.Cl}{i:Nat}{s:Sl}{l:List V}{fr:Fr}{M B:Nat->Prop}{h:Hh}{S:Nat->Prop}{aj:Ev.Fr}(e:Am c fr[i]?=some (s,l))(f:bC M B h S fr aj) :
  fr[i]?=some (some s)/\gX (some s)=true/\(∀ds,oO s ds=.obj c ds)/\∃n ds,aj[i]?=some (some (.ref n))/\Ev.ku c h aj[i]?.join=some (n,ds)/\ak h S l ds:=by
 unfold Am at e;split at e
 case h_3=>cases e
 all_goals
  rename_i j o z;split at e
  case isFalse=>cases e
  rename_i g;subst g;cases e;obtain⟨p,d,n,ds,rfl,_,y,q⟩:=f.get z;exact⟨z,rfl,λ_=>rfl,n,ds,d,by rw[d];simp[Ev.ku,y],q⟩
def xG{c:Ev.Cl}{k:Nat}{l xs:List V}{ds:List D}{h:Hh}{S:Nat->Prop}(e:xx c l k=some xs)(q:ak h S l ds):∃es,Ev.wj c ds k=some es/\ak h S xs es:=by
 unfold xx at e;split at e
 case isFalse=>cases e
 rename_i f;split at e
 .rename_i z;cases e;obtain⟨d,y,p⟩:=q.get z;simp only[Rep]at p;obtain⟨es,rfl,p⟩:=p;exact⟨es,by unfold Ev.wj;rw[LV f,y],p⟩
 .cases e
theorem iL:∀{l:List V}{ps:List (List Nat×Int)}{ds:List D}{h:Hh}{S:Nat->Prop},gc l=some ps->ak h S l ds->Ev.gr ds=some ps
 |[],ps,ds,h,S,e,q=>by cases e;simp only[ak]at q;subst q;rfl
 |v :: l,ps,ds,h,S,e,q=>by
  unfold gc at e;split at e
  .rename_i z;cases z
  .rename_i k i g z;cases z;obtain⟨r,c,rfl⟩:=Option.map_eq_some_iff.mp e;simp only[ak,Rep]at q;obtain⟨d,es,rfl,⟨f,rfl,j,o,rfl,rfl,p,x,rfl,rfl,rfl⟩,q⟩:=q;simp only[Ev.gr,iL c q];rfl
  .cases e
def Av{l:List V}{ps:List (List Nat×Int)}{ds:List D}{h:Hh}{S:Nat->Prop}(e:BQ l=some ps)(q:ak h S l ds):Ev.qK ds=some ps:=by
 unfold BQ at e;split at e
 .simp only[ak,Rep]at q;obtain⟨d,es,rfl,rfl,q⟩:=q;exact iL e q
 .rename_i c;have k:=iL e q;cases ds with
  |nil=>exact k
  |cons d ds=>
   cases d with
   |aD=>cases k
   |_=>exact k
def Lb{l:List V}{ps:List (List Nat×Int)}{ds:List D}{h:Hh}{S:Nat->Prop}(e:GO l=some ps)(q:ak h S l ds):Ev.FQ ds=some ps:=by
 unfold GO at e;split at e
 .simp only[ak,Rep]at q;obtain⟨d,es,rfl,rfl,q⟩:=q;exact iL e q
 .cases e
def Ea(h:Hh)(S:Nat->Prop)(ps:List (List Nat×Int)):ak h S (ps.map dX) (ps.map Ev.g8):=ak.map (f:=dX) (g:=Ev.g8) (λp=>by simp[Rep,ak,dX,Ev.g8]) ps
def Pd{o:Ev.FU}{xs as:List V}{v:V}{es ds:List D}{h:Hh}{S:Nat->Prop}(w:∀m,S m->m<h.length)(z:IK o xs as=some v)(q:ak h S xs es)(p:eZ h S as ds):∃r h' S',Ev.rO o es ds h=.ok r h'/\Rep h' S' v r/\Al h S h' S':=by
 unfold IK at z;split at z
 .simp only[eZ]at p;subst p;cases z;exact⟨_,_,S,rfl,by simp[Rep,q.length],.refl⟩
 .obtain⟨d,rfl,c⟩:=p.one;simp only[bA,Rep]at c;subst c;exact gx w z (q.cut _ _)
 .obtain⟨d,rfl,c⟩:=p.one;simp only[bA,Rep]at c;subst c;obtain⟨i,x,rfl⟩:=Option.map_eq_some_iff.mp z;obtain⟨ps,j,l⟩:=Option.bind_eq_some_iff.mp x;exact⟨.int i,h,S,by simp only[Ev.rO,Av j q,Option.bind,l,Option.map,Ev.cR],by simp[Rep],.refl⟩
 .obtain⟨d,rfl,c⟩:=p.one;simp only[bA,Rep]at c;subst c;obtain⟨ps,j,rfl⟩:=Option.map_eq_some_iff.mp z;exact⟨_,h,S,by simp only[Ev.rO,iL j q,Option.map,Ev.cR];rfl,by simp[Rep],.refl⟩
 .simp only[eZ]at p;subst p;obtain⟨ps,j,l⟩:=Option.bind_eq_some_iff.mp z;split at l
  .rename_i y;obtain⟨r,h',S',A,B,C⟩:=gx w l (ak.map (f:=V.str) (g:=D.str) (h:=h) (S:=S) (λ_=>by simp[Rep]) (Ev.br (ps.map (·.1))));exact⟨r,h',S',by simp only[Ev.rO,Av j q];rw[LV y];exact A,B,C⟩
  .cases l
 .cases z
def Pe{o:Ev.FM}{xs as xs':List V}{v:V}{es ds:List D}{h:Hh}{S:Nat->Prop}(z:IL o xs as=some (v,xs'))(q:ak h S xs es)(p:ak h S as ds):∃r es',Ev.wm o es ds=some (r,es')/\Rep h S v r/\ak h S xs' es':=by
 unfold IL at z;split at z
 .simp only[ak]at p;obtain⟨d,_,rfl,g,rfl⟩:=p;split at z
  .rename_i k;cases z;exact⟨.aD,es++[d],by simp only[Ev.wm];rw[LV (by rw[<-q.length];exact k)],rfl,q.append (.cons g .nil)⟩
  .cases z
 .simp only[ak]at p;subst p;obtain⟨ps,c,f⟩:=Option.map_eq_some_iff.mp z;cases f;exact⟨.aD,.aD :: es,by simp only[Ev.wm,iL c q];rfl,rfl,.cons rfl q⟩
 .simp only[ak,Rep]at p;obtain⟨d,_,rfl,rfl,j,_,rfl,rfl,rfl⟩:=p;split at z
  .rename_i i;obtain⟨ps,c,f⟩:=Option.map_eq_some_iff.mp z;cases f;exact⟨.aD,_,by simp only[Ev.wm];rw[LV (by rw[<-q.length];exact i),iL c q];rfl,rfl,Ea h S _⟩
  .cases z
 .cases z
def GV{c:Ev.Cl}{i n:Nat}{s:Sl}{l':List V}{ds':List D}{fr aq:Fr}{M B:Nat->Prop}{h h1:Hh}{S S1:Nat->Prop}{aj:Ev.Fr}{t:List Nat}(o1:Out M B t h S fr aj h1 S1 aq)(k1:aq[i]?=some (some s))(k2:gX (some s)=true)(k0:∀ds,oO s ds=.obj c ds)
  (w2:aj[i]?=some (some (.ref n))) (q:ak h1 S1 l' ds'):(∀v d,Rep h1 S1 v d->Rep (h1.set n (.obj c ds')) S1 v d)/\Out M B (t++[i]) h S fr aj (h1.set n (.obj c ds')) S1 (aq.set i (some (s.with l'))):=by
 have o:=o1.f.mM k1 k2 w2;refine⟨λv d z=>z.mono (λm z=>fL λy=>(o1.f.wS m z).2.1 (y▸o)) λ_ z=>z,by rw[<-k0];exact o1.f.write k1 k2 w2 q,?_,λj=>?_⟩
 .refine⟨by simpa using o1.tr.len,λm l r=>?_,o1.tr.sub,λm y=>by simpa using o1.tr.new m y,λm l=>?_⟩
  rotate_left
  .rw[<-o1.tr.cls m l];by_cases x:n=m
   .subst x;obtain⟨p,A,F⟩:=o1.f.get k1;rw[w2]at A;cases A;have:∃Aw,h1[n]?=some (oO s Aw):=by
     cases s<;>first | (cases k2;done) | (obtain⟨H,Aw,e,_,y,_⟩:=F;cases e;exact⟨Aw,y⟩)
    obtain⟨Aw,g⟩:=this;rw[aad (List.getElem?_eq_some_iff.mp g).1,g,k0];rfl
   .rw[fL x]
  have g:¬ Xs M aj t m:=λz=>r (Xs.mono (by intro i hi;simp[hi]) z);have G:m≠n:=λz=>r ⟨z▸o,i,by simp,by rw[z];exact w2⟩;rw[fL (λ(z:n=m)=>G z.symm)];exact o1.tr.keep m l g
 .rw[<-o1.lk j];unfold locked;by_cases C:i=j
  .subst C;rw[aad (List.getElem?_eq_some_iff.mp k1).1,k1];exact tQ
  .rw[Uk C]
def IU{c:Ev.Cl}{o:Ev.FU}{i k:Nat}(is:jb P P' es):bM P P' (.fu c o i k es):=λz f=>by
 simp only[ev]at z;split at z
 case isFalse=>cases z
 rename_i d;obtain⟨L,d⟩:=Option.isSome_iff_exists.mp d;obtain⟨n0,Yl,h,_⟩:=se d f;replace z:=ai z;obtain⟨M,N,j,z⟩:=z;obtain⟨ds,Q,S1,p,x,g⟩:=is j f;split at z
 .rename_i l y;replace z:=aF z;obtain⟨z,A⟩:=z;subst A;obtain⟨W,B,z⟩:=Option.bind_eq_some_iff.mp z;obtain⟨n,X,a,q⟩:=se y g.f;obtain⟨C,F,G⟩:=xG B q;obtain⟨r,H,S4,I,J,K⟩:=Pd g.f.w z G x.t;exact⟨r,H,S4,by simp only[Ev.ev,h,ab9,aax,p,Ev.ao,a,F,Ev.cR,I],.of J,g.al K⟩
 .cases z
def IV{c:Ev.Cl}{o:Ev.FM}{i k:Nat}(is:jb P P' es):bM P P' (.fm c o i k es):=λz f=>by
 simp only[ev]at z;split at z
 case isFalse=>cases z
 rename_i g;obtain⟨l0,g⟩:=Option.isSome_iff_exists.mp g;obtain⟨n0,Yl,j,_⟩:=se g f;replace z:=ai z;obtain⟨as,af,x,z⟩:=z;obtain⟨ds,y,S1,A,B,h⟩:=is x f;split at z
 .rename_i s l C;replace z:=ai z;obtain⟨p,cI,d,z⟩:=z;replace d:=aF d;obtain⟨d,F⟩:=d;subst F;obtain⟨xs,G,H⟩:=Option.bind_eq_some_iff.mp d;cases z;obtain⟨I,J,K,n,cs,L,a,q⟩:=Pc C h.f;obtain⟨M,N,Q⟩:=xG G q;obtain⟨r,DG,W,X,Y⟩:=Pe (v:=p.1) (xs':=p.2) H Q B.n;obtain⟨Z,g2⟩:=GV (l':=l.set k (.tup p.2)) h I J K L (q.set k (show Rep y S1 (.tup p.2) (.tup DG)from ⟨_,rfl,Y⟩));refine⟨r,_,S1,?_,.of (Z _ _ X),by simp only[jQ];exact g2⟩;simp only[Ev.ev,j,ab9,aax,A,Ev.ao,a,N,Option.bind,W,Ev.cR]
 .cases z
def xH{elt:E}{t:T}{cond:Eo}(ii:ni P P' it)(ic:vC P P' cond)(ie:bM P P' elt):bM P P' (.comp elt t it cond):=λz f=>by
 simp only[ev]at z;replace z:=ai z;obtain⟨vs,A,H,z⟩:=z;split at z
 case isFalse=>cases z
 rename_i I;replace z:=aF z;obtain⟨z,J⟩:=z;subst J;simp only[aah]at z;obtain⟨rs,K,L⟩:=z;obtain⟨s,h1,S1,M,N,Q,g⟩:=ii H f;have Ym:=g.f.ro;obtain⟨W,l,S2,p,X,C⟩:=Au (f':=λd l=>match Ev.cS t d _ with
    |none=>.bad
    |some A=>(Ev.iT P' cond A l).bind λk i=>if k then (Ev.ev P' elt A i).bind λx j=>.ok (some x) j else .ok none i) (ck:=s.2) g.f.w (λq Y=>(Q q Y).1) (λv o d h S al y q=>by
  split at y
  .cases y
  .rename_i cI Z;obtain⟨kI,b1,F,_,_⟩:=(Ym.al al).cS Z q;rw[b1];split at y
   .rename_i c jV y2;obtain⟨i,S3,p,oc⟩:=ic y2 F;have Pf:Al h S i S3:=oc.tr.al λm z=>z.1;split at y
    .rename_i B;subst B;split at y
     .rename_i x rC y3;cases y;obtain⟨G,j,S4,d1,d2,od⟩:=ie y3 (F.al Pf);refine⟨some G,j,S4,?_,⟨G,rfl,d2.n⟩,Pf.trans (od.tr.al λm z=>z.1)⟩;simp only[p,Ev.ao,aax,d1]
     .cases y
    .rename_i B;cases y;refine⟨none,i,S3,?_,rfl,Pf⟩;simp only[p,Ev.ao];rw[aaj B]
   .cases y) Al.refl K N
 obtain⟨r,j,S4,a1,a2,a3⟩:=gx (g.f.al C).w L X;refine⟨r,j,S4,?_,.of a2,(g.al C).al a3⟩;simp only[Ev.ev,M,Ev.ao];rw[LV (g.f.undef I)];refine Eq.trans (aau (λq:Ev.R (List D)=>q.bind λds l=>Ev.alloc ds l) p) ?_;simp only[Ev.ao,a1]
def Eb(ii:ni P P' it):bM P P' (.jF it):=λz f=>by
 simp only[ev]at z;replace z:=ai z;obtain⟨q,x,d,z⟩:=z;replace z:=aF z;obtain⟨z,g⟩:=z;subst g;obtain⟨s,y,S1,h,i,A,c⟩:=ii d f;obtain⟨r,j,S4,l,o,p⟩:=gx c.f.w z i;exact⟨r,j,S4,by simp only[Ev.ev,h,Ev.ao,l],.of o,c.al p⟩
def Pg:jb P P' .nil:=λ{k fr v af M B h S aj} z f=>by
 simp only[bL]at z;cases z;refine⟨[],_,_,by simp only[Ev.bL],?_,.refl f⟩;unfold j0;split<;>rfl
def Lc(ie:bM P P' e)(is:jb P P' es):jb P P' (.cons e es):=λ{k fr v af M B h S aj} z f=>by
 simp only[bL]at z;replace z:=ai z;obtain⟨x,A,o,z⟩:=z;replace z:=ai z;obtain⟨C,F,p,z⟩:=z;cases z;obtain⟨d,G,S1,i,q,g⟩:=ie o f;obtain⟨ds,r,S2,y,c,j⟩:=is p g.f;have l:=q.tr (a:=e) g.f j.tr (by intro z;simp at z;exact z.2) (vD i);refine⟨d :: ds,r,S2,by simp only[Ev.bL,i,Ev.ao,y],?_,g.trans j⟩;unfold j0 at c ⊢;cases k with
 |true=>simp only[aax]at c ⊢;exact⟨d,ds,rfl,l.t,c⟩
 |false=>
  simp only[aay,aaZ]at c ⊢;exact .cons (by simpa[gy]using l) c
def Ld:r8 P P' .nil:=λz f=>by
 simp only[gm]at z;cases z;exact⟨[],_,_,by simp only[Ev.bL],rfl,.refl f⟩
def GW(ie:bM P P' e)(is:r8 P P' es):r8 P P' (.cons e es):=λ{fr v af M B h S aj} z f=>by
 simp only[gm]at z;cases y:mE fr e with
 |some i=>
  rw[y]at z;try simp only at z
  replace z:=ai z;obtain⟨C,F,g,z⟩:=z;cases z;have G:e=.v i/\∃s,lent fr i=some s:=by
   cases e<;>simp only[mE,reduceCtorEq]at y
   rename_i j;split at y
   .rename_i l;cases y;exact⟨rfl,Option.isSome_iff_exists.mp l⟩
   .cases y
  obtain⟨rfl,s,l⟩:=G;obtain⟨n,K,_,_,_,A,L,_,_⟩:=j9 l f;obtain⟨ds,o,S2,p,q,c⟩:=is g f;refine⟨.ref n :: ds,o,S2,?_,⟨_,_,rfl,A,q⟩,c.weak (by simp only[cW,jQ];intro i hi;simpa using hi)⟩;simp only[Ev.bL,Ev.ev,A,Option.join,Option.bind,id,Ev.cR,Ev.ao,p]
 |none=>
  rw[y]at z;try simp only at z
  replace z:=ai z;obtain⟨x,N,H,z⟩:=z;replace z:=ai z;obtain⟨C,F,g,z⟩:=z;cases z;obtain⟨d,Q,S1,I,J,r⟩:=ie H f;obtain⟨ds,o,S2,p,q,c⟩:=is g r.f;exact⟨d :: ds,o,S2,by simp only[Ev.bL,I,Ev.ao,p],⟨_,_,rfl,J.n.tr r.f c.tr,q⟩,r.trans c⟩
def TM:sd P P' .no:=λz f=>by
 simp only[gk]at z;cases z;exact⟨_,_,by simp only[Ev.gk],.refl f⟩
def Ph(ie:bM P P' e):sd P P' (.yes e):=λz f=>by
 simp only[gk]at z;replace z:=ai z;obtain⟨x,o,c,z⟩:=z;replace z:=aF z;obtain⟨z,g⟩:=z;subst g;obtain⟨d,h,S1,i,j,l⟩:=ie c f;cases x<;>simp[intOf]at z
 subst z;have q:=j.t;simp only[bA,Rep]at q;subst q;exact⟨h,S1,by simp only[Ev.gk,i,Ev.ao];rfl,l⟩
def Pj:vC P P' .no:=λz f=>by
 simp only[iT]at z;cases z;exact⟨_,_,by simp only[Ev.iT],.refl f⟩
def Lf(ie:iA P P' e):vC P P' (.yes e):=λz f=>by
 simp only[iT]at z;obtain⟨c,S1,d,g⟩:=ie z f;exact⟨c,S1,by simp only[Ev.iT,d],g⟩
def WQ(ia:iA P P' a)(ib:iA P P' b):iA P P' (.an a b):=λz f=>by
 simp only[aN]at z;replace z:=ai z;obtain⟨k,p,g,z⟩:=z;obtain⟨h,S1,d,c⟩:=ia g f;cases k with
 |true=>
  simp only[aax]at z;obtain⟨j,S2,l,o⟩:=ib z c.f;exact⟨j,S2,by simp only[Ev.aN,d,Ev.ao,aax,l],c.trans o⟩
 |false=>
  simp only[aay,aaZ]at z;cases z;exact⟨h,S1,by simp only[Ev.aN,d,Ev.ao];rfl,c.weak (by simp only[jQ];intro i hi;simp[hi])⟩
def TN(ia:iA P P' a)(ib:iA P P' b):iA P P' (.orr a b):=λz f=>by
 simp only[aN]at z;replace z:=ai z;obtain⟨k,p,g,z⟩:=z;obtain⟨h,S1,d,c⟩:=ia g f;cases k with
 |false=>
  simp only[aay,aaZ]at z;obtain⟨j,S2,l,o⟩:=ib z c.f;exact⟨j,S2,by simp only[Ev.aN,d,Ev.ao];rw[aaj (by decide)];exact l,c.trans o⟩
 |true=>
  simp only[aax]at z;cases z;exact⟨h,S1,by simp only[Ev.aN,d,Ev.ao];rfl,c.weak (by simp only[jQ];intro i hi;simp[hi])⟩
def WR(ia:iA P P' a):iA P P' (.nt a):=λz f=>by
 simp only[aN]at z;replace z:=ai z;obtain⟨k,i,c,z⟩:=z;obtain⟨d,S1,g,h⟩:=ia c f;cases z;exact⟨d,S1,by simp only[Ev.aN,g,Ev.ao],h⟩
def er(ie:bM P P' e)(h1:∀fr,aN P e fr=(ev P true e fr).bind λx af=>.ok (truthy x) af)(h2:∀fr h,Ev.aN P' e fr h=(Ev.ev P' e fr h).bind λx h1=>Ev.R.of (Ev.truthy h1 x) h1):iA P P' e:=λz f=>by
 rw[h1]at z;replace z:=ai z;obtain⟨x,af,c,z⟩:=z;cases z;obtain⟨d,h1,S1,g,i,j⟩:=ie c f;exact⟨h1,S1,by rw[h2,g,Ev.ao,DW i.t];rfl,j⟩
def Pk(ie:bM P P' e){k:Bool}{fr:Fr}{v:V}{af:Fr}{M B:Nat->Prop}{h:Hh}{S:Nat->Prop}{aj:Ev.Fr}(z:src k fr e (ev P k e fr)=.ok v af)(f:bC M B h S fr aj) :
  ∃d h' S',Ev.ev P' e aj h=.ok d h'/\bA h' S' v d/\(k=false->∀n,d=.ref n->¬ M n)/\Out M B (aM e) h S fr aj h' S' af:=by
 have g:ev P k e fr=.ok v af->∃d h' S',Ev.ev P' e aj h=.ok d h'/\bA h' S' v d/\(k=false->∀n,d=.ref n->¬ M n)/\Out M B (aM e) h S fr aj h' S' af:=λz=>by
  obtain⟨d,A,S1,r,x,o⟩:=ie z f;refine⟨d,A,S1,r,x.t,λC n c=>?_,o⟩;subst C;have q:=x.n;cases v<;>simp only[Rep]at q
  .cases q.symm.trans c
  .cases q.symm.trans c
  .cases q.symm.trans c
  .cases q.symm.trans c
  .obtain⟨_,q,_⟩:=q;cases q.symm.trans c
  .obtain⟨m,ds,q,j,_⟩:=q;cases q.symm.trans c;exact(o.f.wS _ j).2.1
  .obtain⟨m,ds,q,j,_⟩:=q;cases q.symm.trans c;exact(o.f.wS _ j).2.1
  .obtain⟨m,q,j,_⟩:=q;cases q.symm.trans c;exact(o.f.wS _ j).2.1
 cases e
 case v i=>
  simp only[src]at z;replace z:=aF z;obtain⟨z,F⟩:=z;subst F;unfold BP at z;split at z
  .rename_i l y;cases z;obtain⟨p,r,m,ds,rfl,G,H,I⟩:=f.get y;exact⟨.ref m,h,S,by simp only[Ev.ev,r,Option.join,Option.bind,id,Ev.cR],⟨m,ds,rfl,H,I⟩,λ_ n J=>by cases J;exact G,.refl f⟩
  .exact g (by simp only[ev,z,cR])
 all_goals exact g z
def Pn(ie:bM P P' e):ni P P' (.seq e):=λz f=>by
 simp only[dj]at z;replace z:=ai z;obtain⟨x,C,h,z⟩:=z;replace z:=aF z;obtain⟨z,i⟩:=z;subst i;obtain⟨d,j,S1,l,o,p,r⟩:=Pk ie h f;obtain⟨s,y,A,c⟩:=GQ z o;exact⟨s,j,S1,by simp only[Ev.dj,l,Ev.ao,y,Ev.cR],A,λq g=>⟨(c q g).2,λB=>p B _ (c q g).1⟩,r⟩
def Lh(is:jb P P' es):ni P P' (.jh es):=λz f=>by
 simp only[dj]at z;replace z:=ai z;obtain⟨x,y,c,z⟩:=z;replace z:=aF z;obtain⟨z,g⟩:=z;subst g;obtain⟨d,h,S1,i,j,l⟩:=is c f;obtain⟨s,o,p⟩:=OZ z j.t;exact⟨(s,[]),h,S1,by simp only[Ev.dj,i,Ev.ao,o,Ev.cR],p,λq r=>by simp at r,l⟩
def Po{c:Ev.Cl}{h:Hh}{o:Option D}{n:Nat}{ds:List D}(e:Ev.ku c h o=some (n,ds)):h[n]?=some (.obj c ds):=by
 unfold Ev.ku at e;split at e
 .split at e
  .split at e
   .rename_i z d;subst d;cases e;exact z
   .cases e
  .cases e
 .cases e
def Li{c:Ev.Cl}{i:Nat}:ni P P' (.qq c i):=λ{k fr vs af M B h S aj} z f=>by
 simp only[dj]at z;split at z
 case isFalse=>cases z
 rename_i j;split at z
 case h_2=>cases z
 rename_i l o;replace z:=aF z;obtain⟨z,r⟩:=z;subst r;obtain⟨ps,x,rfl⟩:=Option.map_eq_some_iff.mp z;obtain⟨G,y,A⟩:=Option.bind_eq_some_iff.mp x;obtain⟨n,ds,a,q⟩:=se o f;obtain⟨H,C,F⟩:=xG y q;exact⟨(ps.map λp=>D.str p.1,[(n,.int 1 :: ds)]),h,S,by simp only[Ev.dj,a,C,Option.bind,Lb A F,Option.map,Ev.cR],ak.map (f:=λp:List Nat×Int=>V.str p.1) (g:=λp:List Nat×Int=>D.str p.1) (λ_=>by simp[Rep]) ps,λq d=>by
  simp only[aaT]at d;subst d;exact⟨by unfold Ev.gq;rw[Po a];rfl,λz=>by rw[j]at z;cases z⟩,.refl f⟩
def Lj(ie:bM P P' e):ni P P' (.rev e):=λz f=>by
 simp only[dj]at z;replace z:=ai z;obtain⟨x,B,g,z⟩:=z;replace z:=aF z;obtain⟨z,h⟩:=z;subst h;obtain⟨d,i,S1,j,o,p⟩:=ie g f;simp only[aab]at z;obtain⟨l,z,rfl⟩:=z;cases x<;>simp only[BO,reduceCtorEq]at z
 cases z;have c:=o.t;simp only[bA,Rep]at c;obtain⟨ds,r,y⟩:=c;subst r;exact⟨(ds.reverse,[]),i,S1,by simp only[Ev.dj,j,Ev.ao,Ev.FP,Option.map,Ev.cR],y.reverse,λq A=>by simp at A,p⟩
end
section
variable{P:aS}{P':Ev.aS}(HP:rZ P P')
include HP
mutual
theorem bJ:∀e:E,bM P P' e
 |.c _=>O9
 |.v _=>Pa
 |.tup d=>DZ (eK d)
 |.lst d=>D0 (eK d)
 |.bin _ a b=>D3 (bJ a) (bJ b)
 |.cmp _ a b=>D4 (bJ a) (bJ b)
 |.nt a=>TJ (bJ a)
 |.neg a=>D7 (bJ a)
 |.an a b=>TL (bJ a) (bJ b)
 |.orr a b=>Pb (bJ a) (bJ b)
 |.fW t a b=>D8 (g9 t) (bJ a) (bJ b)
 |.ix a b=>IM (bJ a) (bJ b)
 |.sl a i j=>IP (bJ a) (sj i) (sj j)
 |.nN _=>D6
 |.nP a b=>D5 (bJ a) (bJ b)
 |.cl _ d=>IQ HP (xJ d)
 |.bi _ d=>IS (eK d)
 |.me _ o d=>IT (bJ o) (eK d)
 |.comp g _ h f=>xH (mF h) (Ec f) (bJ g)
 |.jF h=>Eb (mF h)
 |.jT a=>D9 (bJ a)
 |.fu _ _ _ _ d=>IU (eK d)
 |.fm _ _ _ _ d=>IV (eK d)
theorem g9:∀e:E,iA P P' e
 |.an a b=>WQ (g9 a) (g9 b)
 |.orr a b=>TN (g9 a) (g9 b)
 |.nt a=>WR (g9 a)
 |.c x=>er O9 (λ_=>by simp only[aN]) (λ_ _=>by simp only[Ev.aN])
 |.v x=>er Pa (λ_=>by simp only[aN]) (λ_ _=>by simp only[Ev.aN])
 |.tup d=>er (DZ (eK d)) (λ_=>by simp only[aN]) (λ_ _=>by simp only[Ev.aN])
 |.lst d=>er (D0 (eK d)) (λ_=>by simp only[aN]) (λ_ _=>by simp only[Ev.aN])
 |.bin _ a b=>er (D3 (bJ a) (bJ b)) (λ_=>by simp only[aN]) (λ_ _=>by simp only[Ev.aN])
 |.cmp _ a b=>er (D4 (bJ a) (bJ b)) (λ_=>by simp only[aN]) (λ_ _=>by simp only[Ev.aN])
 |.neg a=>er (D7 (bJ a)) (λ_=>by simp only[aN]) (λ_ _=>by simp only[Ev.aN])
 |.fW t a b=>er (D8 (g9 t) (bJ a) (bJ b)) (λ_=>by simp only[aN]) (λ_ _=>by simp only[Ev.aN])
 |.ix a b=>er (IM (bJ a) (bJ b)) (λ_=>by simp only[aN]) (λ_ _=>by simp only[Ev.aN])
 |.sl a i j=>er (IP (bJ a) (sj i) (sj j)) (λ_=>by simp only[aN]) (λ_ _=>by simp only[Ev.aN])
 |.nN _=>er D6 (λ_=>by simp only[aN]) (λ_ _=>by simp only[Ev.aN])
 |.nP a b=>er (D5 (bJ a) (bJ b)) (λ_=>by simp only[aN]) (λ_ _=>by simp only[Ev.aN])
 |.cl _ d=>er (IQ HP (xJ d)) (λ_=>by simp only[aN]) (λ_ _=>by simp only[Ev.aN])
 |.bi _ d=>er (IS (eK d)) (λ_=>by simp only[aN]) (λ_ _=>by simp only[Ev.aN])
 |.me _ o d=>er (IT (bJ o) (eK d)) (λ_=>by simp only[aN]) (λ_ _=>by simp only[Ev.aN])
 |.comp g _ h f=>er (xH (mF h) (Ec f) (bJ g)) (λ_=>by simp only[aN]) (λ_ _=>by simp only[Ev.aN])
 |.jF h=>er (Eb (mF h)) (λ_=>by simp only[aN]) (λ_ _=>by simp only[Ev.aN])
 |.jT a=>er (D9 (bJ a)) (λ_=>by simp only[aN]) (λ_ _=>by simp only[Ev.aN])
 |.fu _ _ _ _ d=>er (IU (eK d)) (λ_=>by simp only[aN]) (λ_ _=>by simp only[Ev.aN])
 |.fm _ _ _ _ d=>er (IV (eK d)) (λ_=>by simp only[aN]) (λ_ _=>by simp only[Ev.aN])
theorem eK:∀e:Es,jb P P' e
 |.nil=>Pg
 |.cons e a=>Lc (bJ e) (eK a)
theorem xJ:∀e:Es,r8 P P' e
 |.nil=>Ld
 |.cons e a=>GW (bJ e) (xJ a)
theorem sj:∀e:Eo,sd P P' e
 |.no=>TM
 |.yes e=>Ph (bJ e)
theorem Ec:∀e:Eo,vC P P' e
 |.no=>Pj
 |.yes e=>Lf (g9 e)
theorem mF:∀e:It,ni P P' e
 |.seq e=>Pn (bJ e)
 |.jh b=>Lh (eK b)
 |.rev a=>Lj (bJ a)
 |.qq _ _=>Li
end
end
structure Tr(M B:Nat->Prop)(h:Hh)(S:Nat->Prop)(M':Nat->Prop)(h':Hh)(S':Nat->Prop):Prop where
 len:h.length<=h'.length
 keep:∀m,m<h.length->¬ M m->h'[m]?=h[m]?
 sub:∀m,S m->S' m
 new:∀m,S' m->S m\/(h.length<=m/\m<h'.length)\/(M m/\¬ B m)
 BU:∀m,M' m->M m\/h.length<=m
 cls:∀m:Nat,m<h.length->kO h'[m]?=kO h[m]?
structure eS(M B:Nat->Prop)(h:Hh)(S:Nat->Prop)(fr:Fr)(aj:Ev.Fr)(M':Nat->Prop)(h':Hh)(S':Nat->Prop)(af:Fr)(bY:Ev.Fr):Prop where
 f:bC M' B h' S' af bY
 tr:Tr M B h S M' h' S'
 lk:∀i,locked af i=locked fr i
 rf:∀i,locked fr i=true->bY[i]?=aj[i]?
def iM(h:Hh)(S:Nat->Prop):Fl->Ev.Fl->Prop
 |.nx,g=>g=.nx
 |.bk,g=>g=.bk
 |.ct,g=>g=.ct
 |.ret v,g=>∃d,g=.ret d/\Rep h S v d
section
variable{M B M' M1 M2:Nat->Prop}{h h1 h2:Hh}{S S' S1 S2:Nat->Prop}{fr af aq:Fr}{aj bY nj:Ev.Fr}{c:List Nat}{v:V}{d:D}
def eS.refl(f:bC M B h S fr aj):eS M B h S fr aj M h S fr aj:=⟨f,⟨aae _,λ_ _ _=>rfl,λ_ q=>q,λ_ q=>.inl q,λ_ q=>.inl q
 ,λ_ _=>rfl
 ⟩,λ_=>rfl,λ_ _=>rfl⟩
def Out.s(o:Out M B c h S fr aj h1 S1 af):eS M B h S fr aj M h1 S1 af aj:=⟨o.f,⟨o.tr.len,λm a b=>o.tr.keep m a (λz=>b z.1),o.tr.sub,λm q=>(o.tr.new m q).imp id .inl,λ_ q=>.inl q
 ,o.tr.cls
 ⟩,o.lk,λ_ _=>rfl⟩
theorem eS.trans(f0:bC M B h S fr aj)(a:eS M B h S fr aj M1 h1 S1 af bY)(b:eS M1 B h1 S1 af bY M2 h2 S2 aq nj):eS M B h S fr aj M2 h2 S2 aq nj where
 f:=b.f
 tr:=⟨aas a.tr.len b.tr.len,λm e g=>by
   rw[b.tr.keep m (aaa e a.tr.len) (λz=>by
    rcases a.tr.BU m z with z|z
    .exact g z
    .omega),a.tr.keep m e g],λm q=>b.tr.sub m (a.tr.sub m q),λm q=>by
   rcases b.tr.new m q with q|q|q
   .rcases a.tr.new m q with q|q|q
    .exact .inl q
    .exact .inr (.inl ⟨q.1,aaa q.2 b.tr.len⟩)
    .exact .inr (.inr q)
   .exact .inr (.inl ⟨aas a.tr.len q.1,q.2⟩)
   .rcases a.tr.BU m q.1 with z|z
    .exact .inr (.inr ⟨z,q.2⟩)
    .exact .inr (.inl ⟨z,aaa (a.f.wM m q.1) b.tr.len⟩),λm q=>by
   rcases b.tr.BU m q with q|q
   .exact a.tr.BU m q
   .exact .inr (aas a.tr.len q)
  ,λm q=>(b.tr.cls m (aaa q a.tr.len)).trans (a.tr.cls m q)
  ⟩
 lk:=λi=>(b.lk i).trans (a.lk i)
 rf:=λi q=>(b.rf i (by rw[a.lk i];exact q)).trans (a.rf i q)
def bC.kind(f:bC M B h S fr aj)(g:Option Sl->Option Sl->Prop)(hl:af.length=fr.length)(hg:∀(i:Nat) o,af[i]?=some o->∃o0,fr[i]?=some o0/\(o=o0\/(∃l,o0=some (.own l)/\o=some (.val (.lst l)))\/(∃l,o0=some (.bor l)/\o=some (.ro l)))) :
  ∃M' S',eS M B h S fr aj M' h S' af aj:=by
 let X:Nat->Prop:=λm=>∃(i:Nat) (l:List V),fr[i]?=some (some (Sl.own l))/\af[i]?=some (some (Sl.val (V.lst l)))/\aj[i]?=some (some (D.ref m))
 let Y:Nat->Prop:=λm=>∃(i:Nat) (l:List V),fr[i]?=some (some (Sl.bor l))/\af[i]?=some (some (Sl.ro l))/\aj[i]?=some (some (D.ref m))
 have J:∀m,X m->M m/\¬ B m:=λm ⟨i,l,a,_,b⟩=>by
  obtain⟨N,ds,e,q,_⟩:=f.sl i _ _ a b;cases e;exact q
 have yM:∀m,Y m->M m/\B m:=λm ⟨i,l,a,_,b⟩=>by
  obtain⟨N,ds,e,q,_⟩:=f.sl i _ _ a b;cases e;exact q
 have mono:∀{l:List V} {ds:List D},ak h S l ds->ak h (λm=>S m\/X m) l ds:=λq=>q.mono (λ_ _=>rfl) λ_ z=>.inl z;refine⟨λm=>M m/\¬ X m/\¬ Y m,λm=>S m\/X m,⟨⟨λm q=>?_,λm q=>f.wM m q.1,f.wB,by rw[hl,f.len],λi o p G H=>?_,λi j o P m Q W Z y4 y5 y6=>?_⟩,⟨aae _,λ_ _ _=>rfl,λ_ q=>.inl q,λm q=>?_,λm q=>.inl q.1
  ,λ_ _=>rfl
  ⟩,λi=>?_,λ_ _=>rfl⟩⟩
 .rcases q with q|q
  .exact⟨(f.wS m q).1,λz=>(f.wS m q).2.1 z.1,(f.wS m q).2.2⟩
  .exact⟨f.wM m (J m q).1,λz=>z.2.1 q,(J m q).2⟩
 .obtain⟨o0,A,k⟩:=hg i o G;have x:=f.sl i o0 p A H;rcases k with rfl|⟨l,rfl,rfl⟩|⟨l,rfl,rfl⟩
  .rcases o with _|s
   .exact x
   .cases s with
    |val v=>obtain⟨d,e,q⟩:=x;exact⟨d,e,q.mono (λ_ _=>rfl) λ_ z=>.inl z⟩
    |own l=>
     obtain⟨m,ds,rfl,z,y,q⟩:=x;refine⟨m,ds,rfl,⟨⟨z.1,λ⟨j,I,C,r,F⟩=>?_,λ⟨j,I,C,r,F⟩=>?_⟩,z.2⟩,y,mono q⟩
     .have:=f.inj i j _ _ m A C rfl rfl H F;subst this;rw[G]at r;cases r
     .have:=f.inj i j _ _ m A C rfl rfl H F;subst this;rw[G]at r;cases r
    |bor l=>
     obtain⟨m,ds,rfl,z,y,q⟩:=x;refine⟨m,ds,rfl,⟨⟨z.1,λ⟨j,I,C,r,F⟩=>?_,λ⟨j,I,C,r,F⟩=>?_⟩,z.2⟩,y,mono q⟩
     .have:=f.inj i j _ _ m A C rfl rfl H F;subst this;rw[G]at r;cases r
     .have:=f.inj i j _ _ m A C rfl rfl H F;subst this;rw[G]at r;cases r
    |ro l=>obtain⟨m,ds,rfl,z,y,q⟩:=x;exact⟨m,ds,rfl,λw=>z w.1,y,mono q⟩
    |oo c l=>
     obtain⟨m,ds,rfl,z,y,q⟩:=x;refine⟨m,ds,rfl,⟨⟨z.1,λ⟨j,I,C,r,F⟩=>?_,λ⟨j,I,C,r,F⟩=>?_⟩,z.2⟩,y,mono q⟩
     .have:=f.inj i j _ _ m A C rfl rfl H F;subst this;rw[G]at r;cases r
     .have:=f.inj i j _ _ m A C rfl rfl H F;subst this;rw[G]at r;cases r
    |ob c l=>
     obtain⟨m,ds,rfl,z,y,q⟩:=x;refine⟨m,ds,rfl,⟨⟨z.1,λ⟨j,I,C,r,F⟩=>?_,λ⟨j,I,C,r,F⟩=>?_⟩,z.2⟩,y,mono q⟩
     .have:=f.inj i j _ _ m A C rfl rfl H F;subst this;rw[G]at r;cases r
     .have:=f.inj i j _ _ m A C rfl rfl H F;subst this;rw[G]at r;cases r
    |oq c l=>obtain⟨m,ds,rfl,z,y,q⟩:=x;exact⟨m,ds,rfl,λw=>z w.1,y,mono q⟩
  .obtain⟨m,ds,rfl,z,y,q⟩:=x;exact⟨.ref m,rfl,m,ds,rfl,.inr ⟨i,l,A,G,H⟩,y,mono q⟩
  .obtain⟨m,ds,rfl,z,y,q⟩:=x;exact⟨m,ds,rfl,λw=>w.2.2 ⟨i,l,A,G,H⟩,y,mono q⟩
 .have L:∀(i:Nat) o,af[i]?=some o->gX o=true->∃o0,fr[i]?=some o0/\gX o0=true:=λi o w1 K=>by
   obtain⟨o0,A,k⟩:=hg i o w1;rcases k with rfl|⟨l,rfl,rfl⟩|⟨l,rfl,rfl⟩
   .exact⟨o,A,K⟩
   .cases K
   .cases K
  obtain⟨oi,k1,k2⟩:=L i o Q Z;obtain⟨oj,k3,k4⟩:=L j P W y4;exact f.inj i j oi oj m k1 k3 k2 k4 y5 y6
 .rcases q with q|q
  .exact .inl q
  .exact .inr (.inr (J m q))
 .unfold locked;cases z:af[i]? with
  |none=>
   have:fr[i]?=none:=by rw[acj]at z ⊢;omega
   rw[this]
  |some o=>
   obtain⟨o0,A,k⟩:=hg i o z;rw[A];rcases k with rfl|⟨l,rfl,rfl⟩|⟨l,rfl,rfl⟩<;>rfl
def bC.eE(f:bC M B h S fr aj):∃M' S',eS M B h S fr aj M' h S' (fT fr) aj:=by
 refine f.kind (λ_ _=>True) (by simp[fT]) λi o e=>?_;unfold fT at e;rw[aaA]at e;cases z:fr[i]? with
 |none=>rw[z]at e;cases e
 |some a=>
  rw[z]at e;cases e;refine⟨a,rfl,?_⟩;rcases a with _|s
  .exact .inl rfl
  .cases s with
   |own l=>exact .inr (.inl ⟨l,rfl,rfl⟩)
   |_=>exact .inl rfl
def bC.pre(e:E)(f:bC M B h S fr aj):∃M' S',eS M B h S fr aj M' h S' (tP e fr) aj:=by
 cases e with
 |v j=>
  refine f.kind (λ_ _=>True) (by simp[tP]) λi o e=>?_;simp only[tP]at e;rw[acU]at e;cases z:fr[i]? with
  |none=>rw[z]at e;simp at e
  |some a=>
   rw[z]at e;replace e:(if j=i then Option.map Sl.eE a else a)=o:=W0 e;by_cases b:j=i
   .rw[LV b]at e;subst e;refine⟨a,rfl,?_⟩;rcases a with _|s
    .exact .inl rfl
    .cases s with
     |own l=>exact .inr (.inl ⟨l,rfl,rfl⟩)
     |_=>exact .inl rfl
   .rw[aaj b]at e;subst e;exact⟨a,rfl,.inl rfl⟩
 |_=>exact⟨_,_,.refl f⟩
theorem bC.walk:∀(is:List Nat) {M:Nat->Prop}{S:Nat->Prop}{fr:Fr},bC M B h S fr aj->∃M' S',eS M B h S fr aj M' h S' (lD is fr) aj
 |[],_,_,_,f=>⟨_,_,.refl f⟩
 |i :: is,M,S,fr,f=>by
  have one:∃M1 S1,eS M B h S fr aj M1 h S1 (match fr[i]? with|some (some s)=>fr.set i (some s.walk)|_=>fr) aj:=by
   split
   .rename_i s z;have g:=(List.getElem?_eq_some_iff.mp z).1;refine f.kind (λ_ _=>True) (by simp) λj o e=>?_;by_cases a:i=j
    .subst a;rw[aad g]at e;cases e;refine⟨_,z,?_⟩;cases s with
     |own l=>exact .inr (.inl ⟨l,rfl,rfl⟩)
     |bor l=>exact .inr (.inr ⟨l,rfl,rfl⟩)
     |_=>exact .inl rfl
    .rw[Uk a]at e;exact⟨o,e,.inl rfl⟩
   .exact⟨M,S,.refl f⟩
  obtain⟨M1,S1,b⟩:=one;obtain⟨M2,S2,p⟩:=bC.walk is b.f;exact⟨M2,S2,b.trans f p⟩
def Vf:Sl->List V->Prop
 |.own l,l'=>l=l'
 |.oo _ l,l'=>l=l'
 |_,_=>False
def bC.Pp(f:bC M B h S fr aj){i:Nat}{s:Sl}{l:List V}{ds:List D}{rest:List O}(hs:Vf s l)(e:put fr i s=some af)(q:ak h S l ds):eS M B h S fr aj (λm=>M m\/m=h.length) (h++oO s ds :: rest) S af (aj.set i (some (.ref h.length))):=by
 have Y:af=fr.set i (some s)/\locked fr i=false:=by
  unfold put at e;unfold locked;split at e
  .cases e
  .cases e
  .cases e
  .cases e
  .rename_i Z k2
    k3 k4
   cases e;refine⟨rfl,?_⟩;cases z:fr[i]? with
   |none=>rfl
   |some o=>
    rcases o with _|s
    .rfl
    .cases s with
     |bor l=>exact absurd z (Z l)
     |ro l=>exact absurd z (k2 l)
     |ob c l=>exact absurd z (k3 c l)
     |oq c l=>exact absurd z (k4 c l)
     |_=>rfl
 obtain⟨rfl,P⟩:=Y;have kp:∀m,m<h.length->(h++oO s ds :: rest)[m]?=h[m]?:=λm z=>by rw[yy z]
 have G:∀m,S m->(h++oO s ds :: rest)[m]?=h[m]?:=λm z=>kp m (f.w m z);refine⟨⟨λm y=>⟨by have:=(f.wS m y).1;simp;omega,λz=>?_,(f.wS m y).2.2⟩,λm y=>?_,λm y=>by have:=f.wB m y;simp;omega,by simp[f.len],λj o p A F=>?_,λj k o Q m A F W X I J=>?_⟩,⟨by simp,λm y _=>kp m y,λ_ z=>z,λ_ z=>.inl z,λm z=>z.imp id (λz=>by omega)
   ,λm y=>by rw[kp m y]
   ⟩,λj=>?_,λj r=>?_⟩
 .rcases z with z|z
  .exact(f.wS m y).2.1 z
  .have:=(f.wS m y).1;omega
 .rcases y with y|y
  .have:=f.wM m y;simp;omega
  .subst y;simp
 .by_cases r:i=j
  .subst r;have H:i<fr.length:=by have:=(List.getElem?_eq_some_iff.mp A).1;simpa using this
   rw[aad H]at A;rw[aad (by rw[<-f.len];exact H)]at F;cases A;cases F;cases s<;>first
    |exact hs.elim
    | (simp only[Vf]at hs;subst hs;exact⟨h.length,ds,rfl,⟨.inr rfl,λz=>by have:=f.wB _ z;omega⟩,by simp[oO],q.mono G λ_ z=>z⟩)
  .rw[Uk r]at A F;have g:=f.sl j o p A F;rcases o with _|s
   .exact g
   .cases s with
    |val v=>obtain⟨d,e,q⟩:=g;exact⟨d,e,q.mono G λ_ z=>z⟩
    |own l=>obtain⟨m,C,rfl,z,y,q⟩:=g;exact⟨m,C,rfl,⟨.inl z.1,z.2⟩,by rw[kp m (f.wM m z.1)];exact y,q.mono G λ_ z=>z⟩
    |bor l=>obtain⟨m,C,rfl,z,y,q⟩:=g;exact⟨m,C,rfl,⟨.inl z.1,z.2⟩,by rw[kp m (f.wM m z.1)];exact y,q.mono G λ_ z=>z⟩
    |ro l=>
     obtain⟨m,C,rfl,z,y,q⟩:=g;have N:=(List.getElem?_eq_some_iff.mp y).1;exact⟨m,C,rfl,λw=>by rcases w with w|w;exact z w;omega,by rw[kp m N];exact y,q.mono G λ_ z=>z⟩
    |oo c l=>obtain⟨m,C,rfl,z,y,q⟩:=g;exact⟨m,C,rfl,⟨.inl z.1,z.2⟩,by rw[kp m (f.wM m z.1)];exact y,q.mono G λ_ z=>z⟩
    |ob c l=>obtain⟨m,C,rfl,z,y,q⟩:=g;exact⟨m,C,rfl,⟨.inl z.1,z.2⟩,by rw[kp m (f.wM m z.1)];exact y,q.mono G λ_ z=>z⟩
    |oq c l=>
     obtain⟨m,C,rfl,z,y,q⟩:=g;have N:=(List.getElem?_eq_some_iff.mp y).1;exact⟨m,C,rfl,λw=>by rcases w with w|w;exact z w;omega,by rw[kp m N];exact y,q.mono G λ_ z=>z⟩
 .have K:∀(j:Nat) o,i≠j->fr[j]?=some o->gX o=true->aj[j]?=some (some (.ref m))->m<h.length:=λj o _ w1 w2 w3=>f.wM m (f.mM w1 w2 w3);have L:∀(j:Nat),j<fr.length->i=j->(aj.set i (some (.ref h.length)))[j]?=some (some (.ref m))->m=h.length:=λj H r w=>by
   subst r;rw[aad (by rw[<-f.len];exact H)]at w;cases w;rfl
  have lj:j<fr.length:=by have:=(List.getElem?_eq_some_iff.mp A).1;simpa using this
  have lk:k<fr.length:=by have:=(List.getElem?_eq_some_iff.mp F).1;simpa using this
  by_cases r:i=j
  .by_cases x:i=k
   .rw[<-r,<-x]
   .have a:=L j lj r I;rw[Uk x]at F J;have b:=K k Q x F X J;omega
  .by_cases x:i=k
   .have a:=L k lk x J;rw[Uk r]at A I;have b:=K j o r A W I;omega
   .rw[Uk r]at A I;rw[Uk x]at F J;exact f.inj j k o Q m A F W X I J
 .by_cases r:i=j
  .subst r;rw[P];unfold locked;by_cases H:i<fr.length
   .rw[aad H];cases s<;>first|rfl|exact hs.elim
   .rw[aar (by simpa using H)]
  .unfold locked;rw[Uk r]
 .have:i≠j:=λz=>by subst z;rw[P]at r;cases r
  rw[Uk this]
theorem bC.own(f:bC M B h S fr aj){i:Nat}{l:List V}{ds:List D}(e:put fr i (.own l)=some af)(q:ak h S l ds):eS M B h S fr aj (λm=>M m\/m=h.length) (h++[.lst ds]) S af (aj.set i (some (.ref h.length))):=f.Pp (s:=.own l) (rest:=[]) rfl e q
end
inductive Pq(P':Ev.aS)(w:Nat)(s:S)(g:Fl)(M B:Nat->Prop)(h:Hh)(S:Nat->Prop)(fr:Fr)(aj:Ev.Fr)(af:Fr):Prop
 |mk (g':Ev.Fl) (bY:Ev.Fr) (M':Nat->Prop) (h':Hh) (S':Nat->Prop) (c0:Ev.ex P' w s aj h=.ok (g',bY) h') (c1:iM h' S' g g') (c2:eS M B h S fr aj M' h' S' af bY):Pq P' w s g M B h S fr aj af
inductive Pu(P':Ev.aS)(w:Nat)(s:Ss)(g:Fl)(M B:Nat->Prop)(h:Hh)(S:Nat->Prop)(fr:Fr)(aj:Ev.Fr)(af:Fr):Prop
 |mk (g':Ev.Fl) (bY:Ev.Fr) (M':Nat->Prop) (h':Hh) (S':Nat->Prop) (c0:Ev.exs P' w s aj h=.ok (g',bY) h') (c1:iM h' S' g g') (c2:eS M B h S fr aj M' h' S' af bY):Pu P' w s g M B h S fr aj af
section
variable(P:aS)(P':Ev.aS)(w:Nat)
def qU(s:S):Prop:=∀{fr:Fr} {g:Fl} {af:Fr} {M B:Nat->Prop} {h:Hh} {S:Nat->Prop} {aj:Ev.Fr},ex P w s fr=.ok g af->bC M B h S fr aj->Pq P' w s g M B h S fr aj af
def sq(s:Ss):Prop:=∀{fr:Fr} {g:Fl} {af:Fr} {M B:Nat->Prop} {h:Hh} {S:Nat->Prop} {aj:Ev.Fr},exs P w s fr=.ok g af->bC M B h S fr aj->Pu P' w s g M B h S fr aj af
end
section
variable{P:aS}{P':Ev.aS}{w:Nat}(HP:rZ P P')
include HP
def GX{i:Nat}{e:E}{fr:Fr}{g:Fl}{af:Fr}{M B:Nat->Prop}{h:Hh}{S:Nat->Prop}{aj:Ev.Fr}(z:((ev P false e fr).bind λx af=>if isNew e then (match x with
   |.lst l=>(R.of (put af i (.own l)) af).bind λaq _=>.ok .nx aq
   |_=>.bad)
  else (R.of (put af i (.val x)) af).bind λaq _=>.ok .nx aq)=.ok g af) (f:bC M B h S fr aj):Pq P' w (.set i e) g M B h S fr aj af:=by
 replace z:=ai z;obtain⟨x,aq,a,z⟩:=z;by_cases r:isNew e=true
 .rw[LV r]at z;have y:∃l ds c S1,x=.lst l/\ak c S1 l ds/\Ev.ev P' e aj h=.ok (.ref c.length) (c++[.lst ds])/\Out M B (aM e) h S fr aj c S1 aq:=by
   cases e <;> (try simp only[isNew,aay]at r)
   case lst es=>
    simp only[ev]at a;replace a:=ai a;obtain⟨l,A,b,a⟩:=a;replace a:=aF a;obtain⟨a,p⟩:=a;subst p;unfold dD at a;split at a
    case isFalse=>cases a
    rename_i C;cases a;obtain⟨ds,c,S1,q,j,o⟩:=eK HP es b f;refine⟨l,ds,c,S1,rfl,j.n,?_,o⟩;simp only[Ev.ev,q,Ev.ao,Ev.alloc];rw[LV (by rw[<-j.n.length];exact C)]
   case jF it=>
    simp only[ev]at a;replace a:=ai a;obtain⟨l,A,b,a⟩:=a;replace a:=aF a;obtain⟨a,p⟩:=a;subst p;unfold dD at a;split at a
    case isFalse=>cases a
    rename_i C;cases a;obtain⟨s,c,S1,q,j,J,o⟩:=mF HP it b f;refine⟨l,s.1,c,S1,rfl,j,?_,o⟩;simp only[Ev.ev,q,Ev.ao,Ev.alloc];rw[LV (by rw[<-j.length];exact C)]
  obtain⟨l,ds,c,S1,rfl,j,q,o⟩:=y;simp only at z;replace z:=ai z;obtain⟨A,F,b,z⟩:=z;replace b:=aF b;obtain⟨b,p⟩:=b;subst p;cases z;have G:=o.f.own b j;exact⟨.nx,_,_,_,_,by simp only[Ev.fR,q,Ev.ao],rfl,o.s.trans f G⟩
 .rw[aaj r]at z;replace z:=ai z;obtain⟨A,F,b,z⟩:=z;replace b:=aF b;obtain⟨b,p⟩:=b;subst p;cases z;obtain⟨d,c,S1,q,j,o⟩:=bJ HP e a f;obtain⟨f2,H,I⟩:=o.f.set b j.n;refine⟨.nx,_,_,_,_,by simp only[Ev.fR,q,Ev.ao],rfl,o.s.trans f ⟨f2,(eS.refl f2).tr,H,I⟩⟩
def Lk{i:Nat}{e:E}:qU P P' w (.set i e):=λ{fr g af M B h S aj} z f=>by
 simp only[ex]at z;obtain⟨M0,S0,a⟩:=f.pre e;obtain⟨b,c,d,j,l,p,q,o⟩:=GX HP z a.f;exact⟨b,c,d,j,l,p,q,a.trans f o⟩
omit HP in
theorem Al.push{h:Hh}{S:Nat->Prop}(l:List O)(w:∀m,S m->m<h.length):Al h S (h++l) S:=⟨by simp,λm q=>by rw[yy q],λ_ q=>q,λ_ q=>.inl q⟩
def Pw{i:Nat}{es:Es}:qU P P' w (.nQ i es):=λ{fr g af M B h S aj} z f=>by
 simp only[ex]at z;replace z:=ai z;obtain⟨J,eU,r,z⟩:=z;replace z:=ai z;obtain⟨ps,K,b,z⟩:=z;replace b:=aF b;obtain⟨b,e⟩:=b;subst e;replace z:=ai z;obtain⟨L,N,c,z⟩:=z;replace c:=aF c;obtain⟨c,e⟩:=c;subst e;cases z;obtain⟨ds,j,S0,x,l,o⟩:=eK HP es r f;have y:Ev.wk ds j=some ps:=by
  unfold IJ at b;split at b
  .have:=l.n;simp only[ak]at this;subst this;exact b
  .obtain⟨d,_,rfl,q,rfl⟩:=l.n;simp only[Rep]at q;obtain⟨n,A,rfl,_,a,p⟩:=q;obtain⟨C,F,G⟩:=Option.bind_eq_some_iff.mp b;simp only[Ev.wk,bO,a,Option.bind,iL F p];exact G
  .cases b
 have H:ak j S0 [V.tup (ps.map dX)] [D.tup (ps.map Ev.g8)]:=.cons ⟨_,rfl,Ea j S0 ps⟩ .nil;have I:=o.f.Pp (s:=.oo Ev.cD [V.tup (ps.map dX)]) (rest:=[]) rfl c H;exact⟨.nx,_,_,_,_,by simp only[Ev.fR,x,Ev.ao,y,Ev.cR];rfl,rfl,o.s.trans f I⟩
def Px{e:E}:qU P P' w (.exp e):=λ{fr g af M B h S aj} z f=>by
 simp only[ex]at z;replace z:=ai z;obtain⟨x,i,a,z⟩:=z;cases z;obtain⟨d,j,S1,b,l,c⟩:=bJ HP e a f;exact⟨.nx,_,_,_,_,by simp only[Ev.fR,b,Ev.ao],rfl,c.s⟩
def Py{e:E}:qU P P' w (.ret e):=λ{fr g af M B h S aj} z f=>by
 simp only[ex]at z;replace z:=ai z;obtain⟨x,l,b,z⟩:=z;cases z;obtain⟨M1,S1,a⟩:=f.eE;obtain⟨d,o,S2,c,i,j⟩:=bJ HP e b a.f;exact⟨.ret d,_,_,_,_,by simp only[Ev.fR,c,Ev.ao],⟨d,rfl,i.n⟩,a.trans f j.s⟩
omit HP in
theorem tR{F:V->Fr->R Fl}{F':D->Ev.Fr->Hh->Ev.R (Ev.Fl×Ev.Fr)}{ck:List (Nat×List D)}{B:Nat->Prop}{M0:Nat->Prop}{h0:Hh}{S0:Nat->Prop}{eU:Fr}{GY:Ev.Fr}(f0:bC M0 B h0 S0 eU GY)(st:∀q∈ck,Ev.gq h0 q.1=some q.2/\¬ M0 q.1)
  (turn:∀v d fr g af M h S aj,F v fr=.ok g af->bC M B h S fr aj->Rep h S v d->∃g' bY M' h' S',F' d aj h=.ok (g',bY) h'/\iM h' S' g g'/\eS M B h S fr aj M' h' S' af bY) :
  ∀{vs:List V} {ds:List D} {fr:Fr} {g:Fl} {af:Fr} {M:Nat->Prop} {h:Hh} {S:Nat->Prop} {aj:Ev.Fr},forL F vs fr=.ok g af->eS M0 B h0 S0 eU GY M h S fr aj->ak h S vs ds->
  ∃g' bY M' h' S',Ev.forL F' ck ds aj h=.ok (g',bY) h'/\iM h' S' g g'/\eS M0 B h0 S0 eU GY M' h' S' af bY
 |[],ds,fr,g,af,M,h,S,aj,e,o,q=>by
  simp only[forL]at e;simp only[ak]at q;subst q;cases e;refine⟨.nx,aj,M,h,S,?_,rfl,o⟩;simp only[Ev.forL];rw[LV (kH λx b=>pX (st x b).1 (o.tr.keep _ (vA (st x b).1) (st x b).2))]
 |v :: vs,ds,fr,g,af,M,h,S,aj,e,o,q=>by
  simp only[forL]at e;replace e:=ai e;obtain⟨p,K,L,e⟩:=e;simp only[ak]at q;obtain⟨d,N,rfl,Q,W⟩:=q;obtain⟨g',I,M2,j,S2,c,a,l⟩:=turn v d fr p K M h S aj L o.f Q;have i:=o.trans f0 l;have bw:Ev.stays h ck=true:=kH λx b=>pX (st x b).1 (o.tr.keep _ (vA (st x b).1) (st x b).2);have Vg:ak j S2 vs N:=W.mono (λm z=>l.tr.keep m (o.f.wS m z).1 (o.f.wS m z).2.1) l.tr.sub;cases p with
  |nx=>
   simp only[iM]at a;subst a;simp only at e;obtain⟨r,y,M3,A,S3,C,G,H⟩:=tR f0 st turn e i Vg;refine⟨r,y,M3,A,S3,?_,G,H⟩;simp only[Ev.forL];rw[LV bw,c,Ev.ao];exact C
  |ct=>
   simp only[iM]at a;subst a;simp only at e;obtain⟨r,y,M3,A,S3,C,G,H⟩:=tR f0 st turn e i Vg;refine⟨r,y,M3,A,S3,?_,G,H⟩;simp only[Ev.forL];rw[LV bw,c,Ev.ao];exact C
  |bk=>
   simp only[iM]at a;subst a;simp only at e;cases e;refine⟨.nx,I,M2,j,S2,?_,rfl,i⟩;simp only[Ev.forL];rw[LV bw,c,Ev.ao]
  |ret x=>
   simp only[iM]at a;obtain⟨J,rfl,a⟩:=a;simp only at e;cases e;refine⟨.ret J,I,M2,j,S2,?_,⟨J,rfl,a⟩,i⟩;simp only[Ev.forL];rw[LV bw,c,Ev.ao]
def Pz{t:T}{it:It}{b:Ss}(ib:sq P P' w b):qU P P' w (.for t it b):=λ{o g G M B h S p} z f=>by
 simp only[ex]at z;replace z:=ai z;obtain⟨vs,r,H,z⟩:=z;obtain⟨M1,S1,x⟩:=f.walk (itv it);obtain⟨s,A,S2,I,J,C,a⟩:=mF HP it H x.f;have K:=x.trans f a.s;obtain⟨c,e,M',i,S',L,N,Q⟩:=tR (F':=λd r A=>match Ev.cS t d r with
   |some j=>Ev.exs P' w b j A
   |none=>.bad) (ck:=s.2) a.f (λq F=>⟨(C q F).1,(C q F).2 rfl⟩) (λv d o g G M h S p y f q=>by
  split at y
  .rename_i j W;obtain⟨X,Y,l,Z,b4⟩:=f.cS W q;rw[Y];obtain⟨c,e,M',i,S',c1,c2,c3⟩:=ib y l;exact⟨c,e,M',i,S',c1,c2,(⟨l,(eS.refl l).tr,Z,b4⟩:eS M _ h S o p M h S j X).trans f c3⟩
  .cases y) z (eS.refl a.f) J
 refine⟨c,e,M',i,S',?_,N,K.trans f Q⟩;simp only[Ev.fR,I,Ev.ao];exact L
theorem xK{t:E}{b:Ss}(ib:sq P P' w b):∀(n:Nat) {fr:Fr}{g:Fl}{af:Fr}{M B:Nat->Prop}{h:Hh}{S:Nat->Prop}{aj:Ev.Fr},eO (λaq=>aN P t aq) (λaq=>exs P w b aq) n fr=.ok g af->bC M B h S fr aj->
  ∃g' bY M' h' S',Ev.eO (λaq h2=>Ev.aN P' t aq h2) (λaq h2=>Ev.exs P' w b aq h2) n aj h=.ok (g',bY) h'/\iM h' S' g g'/\eS M B h S fr aj M' h' S' af bY
 |0,_,_,_,_,_,_,_,_,z,_=>by simp only[eO]at z;cases z
 |n+1,fr,g,af,M,B,h,S,aj,z,f=>by
  simp only[eO]at z;replace z:=ai z;obtain⟨k,aq,F,z⟩:=z;obtain⟨G,S1,c,i⟩:=g9 HP t F f;cases k with
  |false=>
   simp only[aay,aaZ]at z;cases z;refine⟨.nx,aj,M,G,S1,?_,rfl,i.s⟩;simp only[Ev.eO,c,Ev.ao];rw[aaj (by decide)]
  |true=>
   simp only[aax]at z;replace z:=ai z;obtain⟨p,I,H,z⟩:=z;obtain⟨g',A,M2,h2,S2,d,a,j⟩:=ib H i.f;have e:=i.s.trans f j;cases p with
   |nx=>
    simp only[iM]at a;subst a;simp only at z;obtain⟨l,GZ,M3,o,S3,q,r,y⟩:=xK ib n z j.f;refine⟨l,GZ,M3,o,S3,?_,r,e.trans f y⟩;simp only[Ev.eO,c,Ev.ao,aax,d];exact q
   |ct=>
    simp only[iM]at a;subst a;simp only at z;obtain⟨l,GZ,M3,o,S3,q,r,y⟩:=xK ib n z j.f;refine⟨l,GZ,M3,o,S3,?_,r,e.trans f y⟩;simp only[Ev.eO,c,Ev.ao,aax,d];exact q
   |bk=>
    simp only[iM]at a;subst a;simp only at z;cases z;refine⟨.nx,A,M2,h2,S2,?_,rfl,e⟩;simp only[Ev.eO,c,Ev.ao,aax,d]
   |ret x=>
    simp only[iM]at a;obtain⟨C,rfl,a⟩:=a;simp only at z;cases z;refine⟨.ret C,A,M2,h2,S2,?_,⟨C,rfl,a⟩,e⟩;simp only[Ev.eO,c,Ev.ao,aax,d]
def PB{t:E}{a b:Ss}(ia:sq P P' w a)(ib:sq P P' w b):qU P P' w (.iff t a b):=λ{fr g af M B h S aj} z f=>by
 simp only[ex]at z;replace z:=ai z;obtain⟨k,r,q,z⟩:=z;obtain⟨x,S1,p,c⟩:=g9 HP t q f;cases k with
 |true=>
  simp only[aax]at z;obtain⟨d,e,M',i,S',j,l,o⟩:=ia z c.f;exact⟨d,e,M',i,S',by simp only[Ev.fR,p,Ev.ao,aax,j],l,c.s.trans f o⟩
 |false=>
  simp only[aay,aaZ]at z;obtain⟨d,e,M',i,S',j,l,o⟩:=ib z c.f;exact⟨d,e,M',i,S',by simp only[Ev.fR,p,Ev.ao];rw[aaj (by decide)];exact j,l,c.s.trans f o⟩
mutual
theorem TQ:∀s:S,qU P P' w s
 |.set _ _=>Lk HP
 |.exp _=>Px HP
 |.nQ _ _=>Pw HP
 |.ret _=>Py HP
 |.iff _ a b=>PB HP (mG a) (mG b)
 |.for _ _ b=>Pz HP (mG b)
 |.qt _ b=>λz f=>by
  simp only[ex]at z;obtain⟨c,d,M',e,S',g,h,i⟩:=xK HP (mG b) w z f;exact⟨c,d,M',e,S',by simp only[Ev.fR];exact g,h,i⟩
 |.pass=>λz f=>by simp only[ex]at z;cases z;exact⟨.nx,_,_,_,_,by simp only[Ev.fR],rfl,.refl f⟩
 |.brk=>λz f=>by simp only[ex]at z;cases z;exact⟨.bk,_,_,_,_,by simp only[Ev.fR],rfl,.refl f⟩
 |.gp _=>λz _=>by simp only[ex]at z;cases z
 |.cnt=>λz f=>by simp only[ex]at z;cases z;exact⟨.ct,_,_,_,_,by simp only[Ev.fR],rfl,.refl f⟩
theorem mG:∀s:Ss,sq P P' w s
 |.nil=>λz f=>by simp only[exs]at z;cases z;exact⟨.nx,_,_,_,_,by simp only[Ev.exs],rfl,.refl f⟩
 |.cons s h=>λz f=>by
  simp only[exs]at z;replace z:=ai z;obtain⟨p,A,i,z⟩:=z;obtain⟨B,d,M2,e,S2,c,a,b⟩:=TQ s i f;cases p with
  |nx=>
   simp only[iM]at a;subst a;simp only at z;obtain⟨j,l,M3,o,S3,q,r,y⟩:=mG h z b.f;exact⟨j,l,M3,o,S3,by simp only[Ev.exs,c,Ev.ao,q],r,b.trans f y⟩
  |ct=>
   simp only[iM]at a;subst a;simp only at z;cases z;exact⟨.ct,d,M2,e,S2,by simp only[Ev.exs,c,Ev.ao],rfl,b⟩
  |bk=>
   simp only[iM]at a;subst a;simp only at z;cases z;exact⟨.bk,d,M2,e,S2,by simp only[Ev.exs,c,Ev.ao],rfl,b⟩
  |ret x=>
   simp only[iM]at a;obtain⟨g,rfl,a⟩:=a;simp only at z;cases z;exact⟨.ret g,d,M2,e,S2,by simp only[Ev.exs,c,Ev.ao],⟨g,rfl,a⟩,b⟩
end
end
def pY{B:Nat->Prop}{h h':Hh}{S:Nat->Prop}{s s':Sl}{m:Nat}{es:List D}(q:kR B B h S (some s) (some (.ref m)))(l1:uP (some s)=true)(l2:uP (some s')=true)(c:∀m:Nat,m<h.length->kO h'[m]?=kO h[m]?)(k1:h'[m]?=some (oO s' es)):h'[m]?=some (oO s es):=by
 have a:∃ds,h[m]?=some (oO s ds):=by
  cases s<;>first | (cases l1;done) | (obtain⟨d,Aw,e,_,y,_⟩:=q;cases e;exact⟨Aw,y⟩)
 obtain⟨ds,a⟩:=a;have b:=c m (List.getElem?_eq_some_iff.mp a).1;rw[k1,a]at b;rw[k1];cases s<;>cases s'<;>first|rfl | (cases b;done) | (cases l1;done) | (cases l2;done) | (simp only[oO,kO,abS]at b;subst b;rfl)
theorem tS{h:Hh}{S:Nat->Prop}{B:Nat->Prop}{h0:Hh}{S0:Nat->Prop}:∀{sl:List Sl}{ds:List D}{cs:Fr},sl.length=ds.length->
  (∀(a:Nat) s d,sl[a]?=some s->ds[a]?=some d->kR B B h0 S0 (some s) (some d)/\locked cs a=uP (some s)/\(uP (some s)=true->∃m es l s',d=.ref m/\h[m]?=some (oO s es)/\ak h S l es/\cs[a]?=some (some s')/\s'.out=some l))->o4 h S sl ds ((cs.take sl.length).filterMap λo=>o.bind Sl.out)
 |[],ds,cs,_,_=>by simp[o4]
 |s :: sl,[],cs,hl,_=>by simp at hl
 |s :: sl,d :: ds,[],hl,q=>by
  have i:=tS (h:=h) (S:=S) (sl:=sl) (ds:=ds) (cs:=[]) (by simpa using hl) λa s' F G H=>by
   obtain⟨g,j,b⟩:=q (a+1) s' F (by simpa using G) (by simpa using H);exact⟨g,by simpa[locked]using j,λz=>by obtain⟨_,_,_,_,_,_,_,y,_⟩:=b z;simp at y⟩
  obtain⟨g,j,b⟩:=q 0 s d (by simp) (by simp);cases s with
  |val v=>simp at i ⊢;exact⟨d,ds,rfl,i⟩
  |own l=>exact absurd g (by rintro⟨m,es,e,q,_⟩;exact q.2 q.1)
  |bor l=>obtain⟨_,_,_,_,_,_,_,y,_⟩:=b rfl;simp at y
  |ro l=>obtain⟨_,_,_,_,_,_,_,y,_⟩:=b rfl;simp at y
  |oo c l=>exact absurd g (by rintro⟨m,es,e,q,_⟩;exact q.2 q.1)
  |ob c l=>obtain⟨_,_,_,_,_,_,_,y,_⟩:=b rfl;simp at y
  |oq c l=>obtain⟨_,_,_,_,_,_,_,y,_⟩:=b rfl;simp at y
 |s :: sl,d :: ds,o :: cs,hl,q=>by
  have i:=tS (h:=h) (S:=S) (sl:=sl) (ds:=ds) (cs:=cs) (by simpa using hl) λa s' F G H=>by
   obtain⟨g,j,b⟩:=q (a+1) s' F (by simpa using G) (by simpa using H);exact⟨g,by simpa[locked]using j,λz=>by simpa using b z⟩
  obtain⟨g,j,b⟩:=q 0 s d (by simp) (by simp);cases s with
  |val v=>
   have:o.bind Sl.out=none:=by
    simp[locked]at j;rcases o with _|s
    .rfl
    .cases s<;>first|rfl|cases j
   simp only[aal,aaG,aaP,this];exact⟨d,ds,rfl,i⟩
  |own l=>exact absurd g (by rintro⟨m,es,e,q,_⟩;exact q.2 q.1)
  |bor l=>
   obtain⟨m,es,p,s',r,x,A,f,C⟩:=b rfl;simp at f;subst f;simp only[aal,aaG,aaP,Option.bind,C];exact⟨d,ds,p,_,m,es,rfl,rfl,r,x,A,i⟩
  |ro l=>
   obtain⟨m,es,p,s',r,x,A,f,C⟩:=b rfl;simp at f;subst f;simp only[aal,aaG,aaP,Option.bind,C];exact⟨d,ds,p,_,m,es,rfl,rfl,r,x,A,i⟩
  |oo c l=>exact absurd g (by rintro⟨m,es,e,q,_⟩;exact q.2 q.1)
  |ob c l=>
   obtain⟨m,es,p,s',r,x,A,f,C⟩:=b rfl;simp at f;subst f;simp only[aal,aaG,aaP,Option.bind,C];exact⟨d,ds,p,_,m,es,rfl,rfl,r,x,A,i⟩
  |oq c l=>
   obtain⟨m,es,p,s',r,x,A,f,C⟩:=b rfl;simp at f;subst f;simp only[aal,aaG,aaP,Option.bind,C];exact⟨d,ds,p,_,m,es,rfl,rfl,r,x,A,i⟩
def PC{fn:Fn}{sl:List Sl}{ds:List D}{B:Nat->Prop}{h:Hh}{S:Nat->Prop}(F0:bC B B h S (sl.map some) (ds.map some))(hlen:sl.length=ds.length):bC B B h S (eU fn sl) (Ev.eU fn ds):=by
 unfold eU Ev.eU;have d:∀(i:Nat) o,(sl.map some++List.replicate (fn.ns - fn.np) none)[i]?=some o->(sl.map some)[i]?=some o\/(sl.length<=i/\o=none):=λi o y=>by
  by_cases a:i<sl.length
  .rw[yy (by simpa using a)]at y;exact .inl y
  .rw[aaz (by simpa using a)]at y;have:=aag y;exact .inr ⟨by omega,(List.mem_replicate.mp this).2⟩
 have e:∀(i:Nat) p,i<sl.length->(ds.map some++List.replicate (fn.ns - fn.np) none)[i]?=some p->(ds.map some)[i]?=some p:=λi p a y=>by
  rw[yy (by simpa[<-hlen]using a)]at y;exact y
 refine⟨F0.wS,F0.wM,F0.wB,by simp[hlen],λi o p b c=>?_,λi j o f m b c g l r x=>?_⟩
 .rcases d i o b with b|⟨a,rfl⟩
  .have a:i<sl.length:=by have:=(List.getElem?_eq_some_iff.mp b).1;simpa using this
   exact F0.sl i o p b (e i p a c)
  .rw[aaz (by simpa[<-hlen]using a)]at c;have:=aag c;exact(List.mem_replicate.mp this).2
 .rcases d i o b with b|⟨a,rfl⟩
  .rcases d j f c with c|⟨q,rfl⟩
   .have a:i<sl.length:=by have:=(List.getElem?_eq_some_iff.mp b).1;simpa using this
    have q:j<sl.length:=by have:=(List.getElem?_eq_some_iff.mp c).1;simpa using this
    exact F0.inj i j o f m b c g l (e i _ a r) (e j _ q x)
   .cases l
  .cases g
theorem Ed(F:List Fn)(w:Nat):∀n,rZ (run F w n) (Ev.run F w n)
 |0=>λf C v os e=>by simp[run]at e
 |n+1=>λf C v os e h S B ds F0=>by
  have HP:=Ed F w n;simp only[run]at e;cases z:F[f]? with
  |none=>rw[z]at e;cases e
  |some j=>
  rw[z]at e;simp only at e;split at e
  case isFalse=>cases e
  rename_i hl;have p:C.length=ds.length:=by have:=F0.len;simpa using this
  have f1:bC B B h S (eU j C) (Ev.eU j ds):=PC F0 p;have fin:∀{g:Fl} {G:Fr},exs (run F w n) w j.body (eU j C)=.ok g G->∃K L M' r S',Ev.exs (Ev.run F w n) w j.body (Ev.eU j ds) h=.ok (K,L) r/\iM r S' g K/\Tk B h S r S'/\o4 r S' C ds (outs j.np G):=λ{g G} y=>by
   obtain⟨K,L,M',r,S',M,x,i⟩:=mG HP j.body y f1;refine⟨K,L,M',r,S',M,x,⟨i.tr.len,λm y1 N=>i.tr.keep m y1 N,i.tr.sub,λm q=>?_
    ,i.tr.cls
    ⟩,?_⟩
   .rcases i.tr.new m q with q|q|q
    .exact .inl q
    .exact .inr q
    .exact absurd q.1 q.2
   .unfold outs;rw[<-hl];refine tS (B:=B) (h0:=h) (S0:=S) p λa s d P W=>?_;have Z:a<C.length:=(List.getElem?_eq_some_iff.mp P).1;have h0:(eU j C)[a]?=some (some s):=by unfold eU;rw[yy (by simpa using Z)];simp[P]
    have b:locked G a=uP (some s):=by rw[i.lk a];unfold locked;rw[h0]
    refine⟨F0.sl a _ _ (by simp[P]) (by simp[W]),b,λA=>?_⟩;have hr:=i.rf a (by unfold locked;rw[h0];exact A);have hd:(Ev.eU j ds)[a]?=some (some d):=by unfold Ev.eU;rw[yy (by simpa[<-p]using Z)];simp[W]
    rw[hd]at hr;cases N:G[a]? with
    |none=>unfold locked at b;rw[N]at b;rw[<-b]at A;cases A
    |some o=>
     have Q:=i.f.sl a _ _ N hr;have s0:=F0.sl a (some s) (some d) (by simp[P]) (by simp[W]);unfold locked at b;rw[N,A]at b;rcases o with _|s'
     .cases b
     .cases s' with
      |val v=>cases b
      |own l=>cases b
      |bor l=>obtain⟨m,H,e,_,I,J⟩:=Q;cases e;exact⟨m,H,l,_,rfl,pY (s':=.bor l)
        s0 A rfl i.tr.cls
        I,J,rfl,rfl⟩
      |ro l=>obtain⟨m,H,e,_,I,J⟩:=Q;cases e;exact⟨m,H,l,_,rfl,pY (s':=.ro l)
        s0 A rfl i.tr.cls
        I,J,rfl,rfl⟩
      |oo c l=>cases b
      |ob c l=>obtain⟨m,H,e,_,I,J⟩:=Q;cases e;exact⟨m,H,l,_,rfl,pY (s':=.ob c l)
        s0 A rfl i.tr.cls
        I,J,rfl,rfl⟩
      |oq c l=>obtain⟨m,H,e,_,I,J⟩:=Q;cases e;exact⟨m,H,l,_,rfl,pY (s':=.oq c l)
        s0 A rfl i.tr.cls
        I,J,rfl,rfl⟩
  simp only[Ev.rP,z];have X:ds.length=j.np:=by omega
  rw[LV X];split at e
  .rename_i v' G y;cases e;obtain⟨K,L,M',r,S',M,x,i,Y⟩:=fin y;simp only[iM]at x;obtain⟨d,rfl,x⟩:=x;exact⟨d,r,S',by simp only[Ev.endOf,M,Ev.ao],x,i,Y⟩
  .rename_i G y;cases e;obtain⟨K,L,M',r,S',M,x,i,Y⟩:=fin y;simp only[iM]at x;subst x;exact⟨.aD,r,S',by simp only[Ev.endOf,M,Ev.ao],rfl,i,Y⟩
  .cases e
end Pv
namespace Pv
open Ev (D O Hh Fn)
def Ll{F:List Fn}{w n f:Nat}{ns:List Int}(e:run F w n f [.val (.bK (ns.map V.int))]=some (.bl true,[]))(hF:autoParam (F.length<=1000) zP._auto_1):∃h',Ev.run F w n f [.ref 0] [.bK (ns.map D.int)]=.ok (.bl true) h':=by
 have F0:bC (λ_=>False) (λ_=>False) [O.bK (ns.map D.int)] (λm=>m=0) ([Sl.val (.bK (ns.map V.int))].map some) ([D.ref 0].map some):=by
  refine⟨λm q=>⟨by subst q;simp,id,id⟩,λm q=>q.elim,λm q=>q.elim,rfl,λi o p c h=>?_,λi j o r m c h l x y z=>?_⟩
  .cases i with
   |zero=>
    simp at c h;subst c h;refine⟨.ref 0,rfl,?_⟩;simp only[Rep];exact⟨0,_,rfl,rfl,rfl,ak.map (f:=V.int) (g:=D.int) (λ_=>by simp[Rep]) ns⟩
   |succ i=>simp at c
  .cases i with
   |zero=>simp at c;subst c;cases l
   |succ i=>simp at c
 obtain⟨d,h',S',a,b,_,_⟩:=Ed F w n f _ _ _ e _ _ _ _ F0;simp only[Rep]at b;subst b;exact⟨h',a⟩
end Pv
namespace Pv
open Ev (D bV bR TY BI ME T E Es Eo It S Ss Fn big deep b2i rep cG eV bU bg cut cX br slots)
def bH{n:Nat}(h:n<=100000):n<=big:=aas h (by decide)
section
variable{i j:Int}{a b:List Nat}{x y:List V}{d e:V}{n:Nat}{k l:Bool}
def cB(h:x.length<=big):dD x=some (.lst x):=by simp[dD,h]
def mH(h:x.length<=big):kE x=some (.tup x):=by simp[kE,h]
@[simp] theorem j3:dD []=some (.lst []):=cB (bH (by simp))
@[simp] theorem BV:kE []=some (.tup []):=mH (bH (by simp))
@[simp] theorem BW{a}:dD [a]=some (.lst [a]):=cB (bH (by simp))
@[simp] theorem nq{a}:kE [a]=some (.tup [a]):=mH (bH (by simp))
@[simp] theorem TR{a b}:dD [a,b]=some (.lst [a,b]):=cB (bH (by simp))
@[simp] theorem gO{a b}:kE [a,b]=some (.tup [a,b]):=mH (bH (by simp))
@[simp] theorem TU{a b c}:kE [a,b,c]=some (.tup [a,b,c]):=mH (bH (by simp))
@[simp] theorem cC:bW .add (.int i) (.int j)=some (.int (i+j)):=nd rfl
def nu(h:a.length+b.length<=100000):bW .add (.str a) (.str b)=some (.str (a++b)):=by delta bW;dsimp only;simp[bH h]
def qV(h:x.length+y.length<=100000):bW .add (.tup x) (.tup y)=some (.tup (x++y)):=by delta bW;dsimp only;simp[bH h]
def xN(h:x.length+y.length<=100000):bW .add (.lst x) (.lst y)=some (.lst (x++y)):=by delta bW;dsimp only;simp[cB (bH (show(x++y).length<=100000 by simpa using h))]
@[simp] theorem xO:bW .sub (.int i) (.int j)=some (.int (i - j)):=nd rfl
@[simp] theorem qW:bW .mul (.int i) (.int j)=if cG i j then some (.int (i*j))else none:=nd rfl
def G0(h0:0<=j)(h1:j<=1000)(h2:a.length<=1000):bW .mul (.str a) (.int j)=some (.str (rep j.toNat a)):=by delta bW;dsimp only;simp[h0,h1,h2]
@[simp] theorem G1:bW .fdiv (.int i) (.int j)=if 0<j/\j<1073741824 then some (.int (i / j))else none:=nd rfl
@[simp] theorem Lm:bW .mod (.int i) (.int j)=if 0<j then some (.int (i % j))else none:=nd rfl
@[simp] theorem PD:cop .eq d e=dB deep d e:=nd rfl
@[simp] theorem o8:cop .ne d e=(dB deep d e).map (!·):=nd rfl
@[simp] theorem mem_cons:mem d (e :: x)=(dB deep e d).bind λb=>(mem d x).bind λc=>some (b ||c):=nd rfl
@[simp] theorem G2:cop .lT .aD .aD=some false:=nd rfl
@[simp] theorem G3:cop .lT (.str a) .aD=some true:=nd rfl
@[simp] theorem PF:dB (n+1) (.int i) (.int j)=some (decide (i=j)):=by show some (i==j)=_;by_cases h:i=j<;>simp[h]
@[simp] theorem xP:dB (n+1) (.str a) (.str b)=some (decide (a=b)):=by show some (a==b)=_;by_cases h:a=b<;>simp[h]
@[simp] theorem PJ:dB (n+1) .aD .aD=some true:=nd rfl
@[simp] theorem Yn:dB (n+1) (.str a) .aD=some false:=nd rfl
@[simp] theorem PK:dB (n+1) .aD (.str a)=some false:=nd rfl
@[simp] theorem PL:dB (n+1) (.lst x) (.lst y)=cU (dB n) x y:=nd rfl
@[simp] theorem Ax:dB deep (.int i) (.int j)=some (decide (i=j)):=PF
@[simp] theorem Ay:dB deep (.str a) (.str b)=some (decide (a=b)):=xP
@[simp] theorem Ln:dB deep (.lst x) (.lst y)=cU (dB (18+1)) x y:=nd rfl
@[simp] theorem Az{f:V->V->Option Bool}:cU f [] []=some true:=nd rfl
@[simp] theorem Yo{f:V->V->Option Bool}:cU f (d :: x) []=some false:=nd rfl
@[simp] theorem xQ{f:V->V->Option Bool}:cU f (d :: x) (e :: y)=(f d e).bind λb=>(cU f x y).bind λc=>some (b&&c):=nd rfl
@[simp] theorem tT:gj (.str a) (.int i)=(bU a i).map λc=>.str [c]:=nd rfl
@[simp] theorem Lo:gj (.lst x) (.int i)=bU x i:=nd rfl
@[simp] theorem gP{lo hi:Option Int}:fX (.str a) lo hi=some (.str (cut a lo hi)):=nd rfl
def abC(h:a.length<=100000):cY .len [.str a]=some (.int a.length):=by delta cY;dsimp only;simp[bH h]
@[simp] theorem Lp:cY .len [.lst x]=some (.int x.length):=nd rfl
@[simp] theorem AA:cY .len [.bK x]=some (.int x.length):=nd rfl
@[simp] theorem tU:cY .sum [.lst x]=(intsOf x).map λis=>.int is.sum:=nd rfl
@[simp] theorem PM:cY .min [.int i,.int j]=some (.int (if j<i then j else i)):=nd rfl
@[simp] theorem pZ:jH (.lst x)=some x:=nd rfl
@[simp] theorem AB:toT (.lst x)=kE x:=nd rfl
def PN(h0:0<=j)(h1:j<=100000):fE [.int j]=some (range 0 j.toNat):=by
 simp only[fE];rw[LV ⟨by omega,by omega⟩]
def ny{α:Type}(g:α->Int)(l:List α):intsOf (l.map λx=>.int (g x))=some (l.map g):=by induction l<;>simp[intsOf, *]
def nA{α:Type}(g:α->List Nat)(l:List α):strsOf (l.map λx=>.str (g x))=some (l.map g):=by induction l<;>simp[strsOf, *]
theorem uR:∀l:List (List Nat),cX [] l=l.flatten
 |[]=>rfl
 |[s]=>by simp[cX]
 |s :: t :: r=>by simp[cX,uR (t :: r)]
@[simp] theorem Yp:truthy (.bl k)=k:=nd rfl
@[simp] theorem W7:truthy (.lst x) = !x.isEmpty:=nd rfl
def IW{l:List (List Nat)}(h:l.flatten.length<=100000):eF .join (.str []) [.lst (l.map V.str)]=some (.str l.flatten):=by
 have f:=nA (λx=>x) l;have:(l.map (·.length)).sum<=big:=bH (by rw[<-List.length_flatten];exact h);simp only[List.map_id']at f;have c:strsOf (l.map V.str)=some l:=by simpa using nA (λx=>x) l
 delta eF;dsimp only;simp[jH,c,uR,this]
end
def fy{α:Type}{f:V->Option (Option V)}(e:α->V)(g:α->V)(l:List α)(h:∀a∈l,f (e a)=some (some (g a))):cZ f (l.map e)=some (l.map g):=by
 induction l with
 |nil=>rfl
 |cons a l b=>simp only[aai,cZ,h a (by simp),b λu c=>h u (by simp[c]),Option.bind];rfl
def fM{α:Type}{f:V->Option (Option V)}(e:α->V)(p:α->Bool)(g:α->V)(l:List α)(h:∀a∈l,f (e a)=some (if p a then some (g a)else none)):cZ f (l.map e)=some ((l.filter p).map g):=by
 induction l with
 |nil=>rfl
 |cons a l b=>
  simp only[aai,cZ,h a (by simp),b λu c=>h u (by simp[c]),Option.bind];cases z:p a<;>simp[z]
def Wp{α:Type}(r:R α)(Q:α->Fr->Prop):Prop:=∃a h,r=.ok a h/\Q a h
section
variable{α β:Type}{Q Q':α->Fr->Prop}
@[simp] theorem sy(a:α)(h:Fr):Wp (.ok a h) Q=Q a h:=propext ⟨λ⟨_,_,e,q⟩=>by cases e;exact q,λq=>⟨_,_,rfl,q⟩⟩
@[simp] theorem Yq:Wp (.bad:R α) Q=False:=propext ⟨λq=>(by obtain⟨_,_,e,_⟩:=q;cases e),False.elim⟩
@[simp] theorem wp_bind(r:R β)(f:β->Fr->R α):Wp (r.bind f) Q=Wp r λa h=>Wp (f a h) Q:=by cases r<;>simp
def Wp.mono{r:R α}(h:Wp r Q)(f:∀a h,Q a h->Q' a h):Wp r Q':=by
 obtain⟨a,b,e,q⟩:=h;exact⟨a,b,e,f a b q⟩
end
def fl(I Q:Fr->Prop)(X:V->Fr->Prop):Fl->Fr->Prop
 |.nx,fr=>I fr
 |.ct,fr=>I fr
 |.bk,fr=>Q fr
 |.ret v,fr=>X v fr
section
variable{I J:Fr->Prop}{X:V->Fr->Prop}{fr:Fr}
@[simp] theorem dG:fl I J X .nx fr=I fr:=nd rfl
end
theorem ez{α:Type}{e:α->V}{f:V->Fr->R Fl}{Q:Fl->Fr->Prop}(I:List α->List α->Fr->Prop)(turn:∀p a l fr,I p (a :: l) fr->Wp (f (e a) fr) (fl (I (p++[a]) l) (Q .nx) λv=>Q (.ret v)))(fin:∀p fr,I p [] fr->Q .nx fr):∀(l p:List α) (fr:Fr),I p l fr->Wp (forL f (l.map e) fr) Q
 |[],p,fr,i=>by simp only[aco,forL,sy];exact fin p fr i
 |a :: l,p,fr,i=>by
  simp only[aai,forL,wp_bind];refine(turn p a l fr i).mono λg b q=>?_;cases g with
  |nx=>exact ez I turn fin l _ b q
  |ct=>exact ez I turn fin l _ b q
  |bk=>exact(sy _ _).mpr q
  |ret x=>exact(sy _ _).mpr q
def AD{f:V->Fr->R Fl}{Q:Fl->Fr->Prop}{lo:Int}{N:Nat}(I:Nat->Fr->Prop)(turn:∀(k:Nat) fr,k<N->I k fr->Wp (f (.int (lo+(k:Nat))) fr) (fl (I (k+1)) (Q .nx) λv=>Q (.ret v)))(fin:∀fr,I N fr->Q .nx fr){fr:Fr}(i:I 0 fr):Wp (forL f (range lo N) fr) Q:=by
 have h:=ez (e:=λ(k:Nat)=>V.int (lo+k)) (f:=f) (Q:=Q) (λp l fr=>∃k,k<=N/\p=List.range k/\p++l=List.range N/\I k fr)
  (λp a l fr ⟨k,j,d,c,q⟩=>by
   subst d;have b:=aau List.length c;simp at b;have o:a=k:=by
    have:=aau (·[k]?) c;simp[aaz]at this;rw[abo (by omega)]at this;simpa using this
   subst o;refine(turn a fr (by omega) q).mono λg r z=>?_;cases g with
   |nx=>exact⟨a+1,by omega,by simp[abG],by simpa using c,z⟩
   |ct=>exact⟨a+1,by omega,by simp[abG],by simpa using c,z⟩
   |bk=>exact z
   |ret x=>exact z)
  (λp fr ⟨k,j,d,c,q⟩=>by
   subst d;have b:=aau List.length c;simp at b;subst b;exact fin fr q) (List.range N) [] fr ⟨0,aaU _,rfl,by simp,i⟩
 exact h
theorem xR{t:Fr->R Bool}{f:Fr->R Fl}{Q:Fl->Fr->Prop}(I:Nat->Fr->Prop)(turn:∀k fr,I k fr->Wp (t fr) λb af=>if b then Wp (f af) (fl (λaq=>∃j,j<k/\I j aq) (Q .nx) λv=>Q (.ret v))else Q .nx af):∀(n k:Nat) (fr:Fr),k<n->I k fr->Wp (eO t f n fr) Q
 |0,k,fr,hk,_=>by omega
 |n+1,k,fr,hk,i=>by
  simp only[eO,wp_bind];refine(turn k fr i).mono λb af q=>?_;cases b with
  |false=>simpa using q
  |true=>
   simp only[aax,wp_bind]at q ⊢;refine q.mono λg aq z=>?_;cases g with
   |nx=>obtain⟨j,a,z⟩:=z;exact xR I turn n j aq (by omega) z
   |ct=>obtain⟨j,a,z⟩:=z;exact xR I turn n j aq (by omega) z
   |bk=>exact(sy _ _).mpr z
   |ret x=>exact(sy _ _).mpr z
noncomputable def fin(fn:Fn)(ds:List Sl):R Fl->Option (V×List (List V))
 |.ok (.ret v) fr=>some (v,outs fn.np fr)
 |.ok .nx fr=>some (.aD,outs fn.np fr)
 |_=>OQ fn ds
@[simp] theorem AE{fn:Fn}{ds:List Sl}{v:V}{fr:Fr}:fin fn ds (.ok (.ret v) fr)=some (v,outs fn.np fr):=nd rfl
def run_eq{F:List Fn}{w n f:Nat}{ds:List Sl}{fn:Fn}(hf:F[f]?=some fn)(hl:ds.length=fn.np):run F w (n+1) f ds=fin fn ds (exs (run F w n) w fn.body (eU fn ds)):=by
 simp only[rP,hf,hl,aax];cases exs (run F w n) w fn.body (eU fn ds)with
 |bad=>rfl
 |ok g a=>cases g<;>rfl
def bZ{F:List Fn}{w n f:Nat}{ds:List Sl}{fn:Fn}{v:V}{os:List (List V)}(hf:F[f]?=some fn)(hl:ds.length=fn.np)(q:Wp (exs (run F w n) w fn.body (eU fn ds)) λg fr=>g=.ret v/\outs fn.np fr=os):run F w (n+1) f ds=some (v,os):=by
 rw[run_eq hf hl];obtain⟨g,fr,e,rfl,rfl⟩:=q;rw[e];rfl
section
variable{P:aS}{w:Nat}{fr:Fr}{k:Bool}{a b c:E}{es:Es}{ss sa sb:Ss}{st:S}{lo hi:Eo}{it:It}
@[simp] theorem WS{d:D}:ev P k (.c d) fr=R.of (ofD d) fr:=by rw[ev]
@[simp] theorem PR{i:Nat}:ev P k (.v i) fr=R.of (kF k fr i) fr:=by rw[ev]
@[simp] theorem PU:ev P k (.tup es) fr=(bL P false es fr).bind λds af=>R.of (kE ds) af:=by rw[ev]
@[simp] theorem PV:ev P k (.lst es) fr=(bL P false es fr).bind λds af=>R.of (dD ds) af:=by rw[ev]
@[simp] theorem PX{o:bV}:ev P k (.bin o a b) fr=(ev P (kf a (aM b)) a fr).bind λx af=>(ev P true b af).bind λy aq=>R.of (bW o x y) aq:=by rw[ev]
@[simp] theorem PY{o:bR}:ev P k (.cmp o a b) fr=(ev P (kf a (aM b)) a fr).bind λx af=>(ev P true b af).bind λy aq=>R.of ((cop o x y).map .bl) aq:=by rw[ev]
noncomputable def Yr:V->Fr->R V:=λx d=>match x with
 |.bl b=>.ok (.bl (!b)) d
 |_=>.bad
@[simp] theorem TV:ev P k (.nt a) fr=(ev P true a fr).bind Yr:=by rw[ev];rfl
noncomputable def WT:V->Fr->R V:=λx d=>match x with
 |.int i=>.ok (.int (-i)) d
 |_=>.bad
@[simp] theorem PZ:ev P k (.neg a) fr=(ev P true a fr).bind WT:=by rw[ev];rfl
@[simp] theorem P0:ev P k (.fW a b c) fr=(aN P a fr).bind λt af=>if t then ev P k b af else ev P k c af:=by rw[ev]
@[simp] theorem TX:ev P k (.ix a b) fr=(ev P (kf a (aM b)) a fr).bind λx af=>(ev P true b af).bind λy aq=>R.of (gj x y) aq:=by rw[ev]
@[simp] theorem TZ:ev P k (.sl a lo hi) fr=(ev P (kf a (iY lo++iY hi)) a fr).bind λx af=>(gk P lo af).bind λl aq=>(gk P hi aq).bind λu cI=>R.of (fX x l u) cI:=by rw[ev]
@[simp] theorem T3{f:Nat}:ev P k (.cl f es) fr=(gm P es fr).bind λas af=>gM P f as af:=by rw[ev]
@[simp] theorem T4{g:BI}:ev P k (.bi g es) fr=(bL P true es fr).bind λds af=>R.of (cY g ds) af:=by rw[ev]
noncomputable def G4(m:ME)(i:Nat):List V->Fr->R V:=λds d=>match d[i]? with
 |some (some (.own l))=>match lz m l ds with
  |some (v,l')=>.ok v (d.set i (some (.own l')))
  |none=>.bad
 |some (some (.bor l))=>match lz m l ds with
  |some (v,l')=>.ok v (d.set i (some (.bor l')))
  |none=>.bad
 |_=>.bad
def P1{m:ME}{i:Nat}(hm:jy m=true):ev P k (.me m (.v i) es) fr=if (lent fr i).isSome then (bL P (DV m) es fr).bind (G4 m i)else .bad:=by
 rw[ev,LV hm];unfold mE;cases z:(lent fr i).isSome<;>simp[z]<;>rfl
def P4{m:ME}(hm:jy m=false):ev P k (.me m a es) fr=(ev P (kf a (cW es)) a fr).bind λx af=>(bL P true es af).bind λds aq=>R.of (eF m x ds) aq:=by rw[ev,hm];rfl
noncomputable def jz(P:aS)(elt:E)(t:T)(cond:Eo)(fr:Fr):V->Option (Option V):=λd=>match cS t d (uO fr)with
 |none=>none
 |some e=>match iT P cond e with
  |.ok c _=>if c then (match ev P false elt e with|.ok x _=>some (some x)|.bad=>none)else some none
  |.bad=>none
@[simp] theorem tK{elt:E}{t:T}{cond:Eo}:ev P k (.comp elt t it cond) fr=(dj P true it fr).bind λs af=>if undef t af then R.of ((cZ (jz P elt t cond af) s).bind dD) af else .bad:=by rw[ev];rfl
@[simp] theorem P5:ev P k (.jF it) fr=(dj P true it fr).bind λs af=>R.of (dD s) af:=by rw[ev]
@[simp] theorem P6:ev P k (.jT a) fr=(ev P true a fr).bind λx af=>R.of (toT x) af:=by rw[ev]
@[simp] theorem Lq:bL P k .nil fr=.ok [] fr:=by rw[bL]
@[simp] theorem G5:bL P k (.cons a es) fr=(ev P (k&&kf a (cW es)) a fr).bind λd af=>(bL P k es af).bind λds aq=>.ok (d :: ds) aq:=by rw[bL]
@[simp] theorem Lr:gm P .nil fr=.ok [] fr:=by rw[gm]
noncomputable def BX(P:aS)(a:E)(es:Es)(fr:Fr):Option Nat->R (List (Nat ⊕ V))
 |some i=>(gm P es fr).bind λr e=>.ok (.inl i :: r) e
 |none=>(ev P false a fr).bind λd e=>(gm P es e).bind λr f=>.ok (.inr d :: r) f
@[simp] theorem BY{i:Nat}:BX P a es fr (some i)=(gm P es fr).bind λr af=>.ok (.inl i :: r) af:=nd rfl
@[simp] theorem BZ:BX P a es fr none=(ev P false a fr).bind λd af=>(gm P es af).bind λr aq=>.ok (.inr d :: r) aq:=nd rfl
@[simp] theorem xS:gm P (.cons a es) fr=BX P a es fr (mE fr a):=by rw[gm];cases mE fr a<;>rfl
@[simp] theorem P7:gk P .no fr=.ok none fr:=by rw[gk]
@[simp] theorem Ls:gk P (.yes a) fr=(ev P true a fr).bind λd af=>R.of ((intOf d).map some) af:=by rw[gk]
@[simp] theorem P8:iT P .no fr=.ok true fr:=by rw[iT]
@[simp] theorem Lu:iT P (.yes a) fr=aN P a fr:=by rw[iT]
@[simp] theorem Ef:aN P (.an a b) fr=(aN P a fr).bind λk af=>if k then aN P b af else .ok false af:=by rw[aN]
@[simp] theorem AF:aN P (.orr a b) fr=(aN P a fr).bind λk af=>if k then .ok true af else aN P b af:=by rw[aN]
@[simp] theorem P9:aN P (.nt a) fr=(aN P a fr).bind λk af=>.ok (!k) af:=by rw[aN]
noncomputable def Qa:V->Fr->R Bool:=λx d=>.ok (truthy x) d
@[simp] theorem Lv{x:V}:Qa x fr=.ok (truthy x) fr:=nd rfl
@[simp] theorem Lx:dj P k (.seq a) fr=(src k fr a (ev P k a fr)).bind λx af=>R.of (gI x) af:=by rw[dj]
@[simp] theorem Ly:dj P k (.jh es) fr=(bL P true es fr).bind λds af=>R.of (fE ds) af:=by rw[dj]
@[simp] theorem Lz:dj P k (.rev a) fr=(ev P true a fr).bind λx af=>R.of ((BO x).map λs=>s.reverse) af:=by rw[dj]
noncomputable def Qc(i:Nat)(af:Fr):V->R Fl
 |.lst l=>(R.of (put af i (.own l)) af).bind λd _=>.ok .nx d
 |_=>.bad
@[simp] theorem G6{i:Nat}{l:List V}:Qc i fr (.lst l)=(R.of (put fr i (.own l)) fr).bind λaq _=>.ok .nx aq:=nd rfl
@[simp] theorem Eg{i:Nat}:ex P w (.set i a) fr=(ev P false a (tP a fr)).bind λx af=>if isNew a then Qc i af x else (R.of (put af i (.val x)) af).bind λaq _=>.ok .nx aq:=by
 rw[ex];rfl
@[simp] theorem Qd:ex P w (.exp a) fr=(ev P true a fr).bind λ_ af=>.ok .nx af:=by rw[ex]
@[simp] theorem Qe:ex P w (.ret a) fr=(ev P false a (fT fr)).bind λx af=>.ok (.ret x) af:=by rw[ex]
@[simp] theorem Qf:ex P w (.iff a sa sb) fr=(aN P a fr).bind λk af=>if k then exs P w sa af else exs P w sb af:=by rw[ex]
@[simp] theorem Qg:ex P w .cnt fr=.ok .ct fr:=by rw[ex]
noncomputable def turnF(P:aS)(w:Nat)(t:T)(b:Ss):V->Fr->R Fl:=λd e=>match cS t d e with
 |some f=>exs P w b f
 |none=>.bad
@[simp] theorem wD{t:T}:ex P w (.for t it ss) fr=(dj P false it (lD (itv it) fr)).bind λs af=>forL (turnF P w t ss) s af:=by rw[ex];rfl
@[simp] theorem Qh:ex P w (.qt a ss) fr=eO (λaq=>aN P a aq) (λaq=>exs P w ss aq) w fr:=by rw[ex]
@[simp] theorem LA:exs P w .nil fr=.ok .nx fr:=by rw[exs]
noncomputable def T5(P:aS)(w:Nat)(ss:Ss):Fl->Fr->R Fl:=λp d=>match p with
 |.nx=>exs P w ss d
 |p=>.ok p d
@[simp] theorem G7:exs P w (.cons st ss) fr=(ex P w st fr).bind (T5 P w ss):=by rw[exs];rfl
end
def lE{P:aS}{f:Nat}{vs:List V}{fr:Fr}{v:V}(h:P f (vs.map .val)=some (v,[])):gM P f (vs.map .inr) fr=.ok v fr:=by
 have a:∀vs:List V,b6 (vs.map .inr)=[]:=λvs=>by induction vs<;>simp[b6, *]
 have b:∀vs:List V,args fr (vs.map .inr)=some (vs.map .val):=λvs=>by induction vs<;>simp[args, *]
 simp[gM,a,b,h,back]
section
variable{P:aS}{f:Nat}{fr:Fr}{a b c d v:V}
def fU(h:P f [.val a]=some (v,[])):gM P f [.inr a] fr=.ok v fr:=lE (vs:=[a]) h
def call2(h:P f [.val a,.val b]=some (v,[])):gM P f [.inr a,.inr b] fr=.ok v fr:=lE (vs:=[a,b]) h
def fF(h:P f [.val a,.val b,.val c]=some (v,[])):gM P f [.inr a,.inr b,.inr c] fr=.ok v fr:=lE (vs:=[a,b,c]) h
def T6(h:P f [.val a,.val b,.val c,.val d]=some (v,[])):gM P f [.inr a,.inr b,.inr c,.inr d] fr=.ok v fr:=lE (vs:=[a,b,c,d]) h
end
section
variable{fr:Fr}{i:Nat}{k:Bool}{s:Sl}{v:V}{l:List V}
noncomputable def Eh(k:Bool):Option (Option Sl)->Option V
 |some (some (.val v))=>some v
 |some (some (.own l))=>if k then some (.lst l)else none
 |some (some (.bor l))=>if k then some (.lst l)else none
 |some (some (.ro l))=>if k then some (.lst l)else none
 |_=>none
@[simp] theorem LC:kF k fr i=Eh k fr[i]?:=by unfold kF Eh;split<;>simp_all
@[simp] theorem W8:Eh k (some (some (.val v)))=some v:=nd rfl
@[simp] theorem W9:Eh k (some (some (.own l)))=if k then some (.lst l)else none:=nd rfl
@[simp] theorem T7{r:R V}:src k fr (.v i) r=R.of (BP k fr i) fr:=nd rfl
noncomputable def Qi:Option (Option Sl)->Option Sl
 |some (some s)=>s.lend
 |_=>none
@[simp] theorem LD:lent fr i=Qi fr[i]?:=by unfold lent Qi;split<;>simp_all
@[simp] theorem Xa:Qi (some (some (.own l)))=some (.bor l):=nd rfl
noncomputable def AG(fr:Fr)(i:Nat)(s:Sl):Option (Option Sl)->Option Fr
 |some (some (.bor _))=>none
 |some (some (.ro _))=>none
 |some (some (.ob _ _))=>none
 |some (some (.oq _ _))=>none
 |_=>some (fr.set i (some s))
@[simp] theorem Ei:put fr i s=AG fr i s fr[i]?:=by unfold put AG;split<;>simp_all
@[simp] theorem Xb:AG fr i s (some (some (.val v)))=some (fr.set i (some s)):=nd rfl
@[simp] theorem Xc:AG fr i s (some (some (.own l)))=some (fr.set i (some s)):=nd rfl
@[simp] theorem B3{l:List Nat}{x:List V}:cS (.many l) (.tup x) fr=di l x fr:=nd rfl
@[simp] theorem B4:di [] [] fr=some fr:=nd rfl
@[simp] theorem zo{l:List Nat}{x:List V}:di (i :: l) (v :: x) fr=(put fr i (.val v)).bind (di l x):=nd rfl
noncomputable def Vh(fr:Fr)(i:Nat):Option (Option Sl)->Fr
 |some (some s)=>fr.set i (some s.walk)
 |_=>fr
@[simp] theorem Vi:lD [] fr=fr:=nd rfl
@[simp] theorem T8{l:List Nat}:lD (i :: l) fr=lD l (Vh fr i fr[i]?):=by
 show List.foldl _ _ _=_;simp only[aaL];unfold lD Vh
 congr 1
@[simp] theorem Y8:itv (.seq (.v i))=[i]:=nd rfl
noncomputable def iN(m:ME)(i:Nat)(ds:List V)(fr:Fr):Option (Option Sl)->R V
 |some (some (.own l))=>match lz m l ds with
  |some (v,l')=>.ok v (fr.set i (some (.own l')))
  |none=>.bad
 |some (some (.bor l))=>match lz m l ds with
  |some (v,l')=>.ok v (fr.set i (some (.bor l')))
  |none=>.bad
 |_=>.bad
@[simp] theorem LF{m:ME}{ds:List V}:G4 m i ds fr=iN m i ds fr fr[i]?:=by unfold G4 iN;split<;>simp_all<;>rfl
def qa{d:V}(h:l.length<100000):iN .append i [d] fr (some (some (.own l)))=.ok .aD (fr.set i (some (.own (l++[d])))):=by
 simp[iN,lz,aaa h (show 100000<=big by decide)]
def LG{d:V}(h:l.length<100000):iN .append i [d] fr (some (some (.bor l)))=.ok .aD (fr.set i (some (.bor (l++[d])))):=by
 simp[iN,lz,aaa h (show 100000<=big by decide)]
def kc{d:List V}(h:l.length+d.length<=100000):iN .extend i [.lst d] fr (some (some (.own l)))=.ok .aD (fr.set i (some (.own (l++d)))):=by
 simp[iN,lz,bH h]
def AH:iN .pop i [] fr (some (some (.own (l++[v]))))=.ok v (fr.set i (some (.own l))):=by
 simp[iN,lz]
def LH:iN .pop i [] fr (some (some (.bor (l++[v]))))=.ok v (fr.set i (some (.bor l))):=by
 simp[iN,lz]
end
def vo(o:Option Sl):Prop:=o=none\/∃y,o=some (.val y)
theorem vo.none:vo none:=.inl rfl
theorem vo.val{v:V}:vo (some (.val v)):=.inr ⟨v,rfl⟩
def Qj{fr:Fr}{i:Nat}{s:Sl}{b:Option Sl}(h:vo b):AG fr i s (some b)=some (fr.set i (some s)):=by rcases h with rfl|⟨y,rfl⟩<;>rfl
def dh{b:Option Sl}(h:vo b):b.map Sl.eE=b:=by rcases h with rfl|⟨y,rfl⟩<;>rfl
noncomputable def T9(f:V->Fr->R Fl)(ds:List V):Fl->Fr->R Fl:=λp a=>match p with
 |.nx=>forL f ds a
 |.ct=>forL f ds a
 |.bk=>.ok .nx a
 |.ret x=>.ok (.ret x) a
section
variable{f:V->Fr->R Fl}{ds:List V}{d:V}{fr:Fr}
@[simp] theorem uy:forL f (d :: ds) fr=(f d fr).bind (T9 f ds):=nd rfl
end
section
variable{a b c:E}{es:Es}{lo hi:Eo}{it:It}
@[simp] theorem Y9{d:D}:aM (.c d)=[]:=rfl
@[simp] theorem Za{i:Nat}:aM (.v i)=[]:=rfl
@[simp] theorem Xd:aM (.tup es)=cW es:=rfl
@[simp] theorem Xe:aM (.lst es)=cW es:=rfl
@[simp] theorem Xf{o:bV}:aM (.bin o a b)=aM a++aM b:=rfl
@[simp] theorem Xg{o:bR}:aM (.cmp o a b)=aM a++aM b:=rfl
@[simp] theorem Ys:aM (.nt a)=aM a:=rfl
@[simp] theorem Xh:aM (.neg a)=aM a:=rfl
@[simp] theorem Yt:aM (.an a b)=aM a++aM b:=rfl
@[simp] theorem Xi:aM (.orr a b)=aM a++aM b:=rfl
@[simp] theorem Xj:aM (.fW a b c)=aM a++(aM b++aM c):=rfl
@[simp] theorem Yu:aM (.ix a b)=aM a++aM b:=rfl
@[simp] theorem Yv:aM (.sl a lo hi)=aM a++(iY lo++iY hi):=rfl
@[simp] theorem Yw{f:Nat}:aM (.cl f es)=cW es++jE es:=rfl
@[simp] theorem Yx{f:BI}:aM (.bi f es)=cW es:=rfl
@[simp] theorem Yy{m:ME}:aM (.me m a es)=aM a++(cW es++II m a):=rfl
@[simp] theorem WU{t:T}:aM (.comp a t it lo)=xw it:=rfl
@[simp] theorem Xk:aM (.jF it)=xw it:=rfl
@[simp] theorem Xl:aM (.jT a)=aM a:=rfl
end
def xT{α:Type}{l:List α}{i:Int}(h0:0<=i):bU l i=l[i.toNat]?:=by
 unfold bU eV;rw[LV h0];split
 .rfl
 .rw[aar (by omega)];rfl
@[simp] theorem zC{α:Type}{l:List α}{n:Nat}:bU l (n:Int)=l[n]?:=by rw[xT (by omega)];simp
def Qk{α:Type}{l:List α}:bU l (-1:Int)=l.getLast?:=by
 unfold bU eV;cases l with
 |nil=>rfl
 |cons a l=>
  have b:¬ (0:Int)<=-1:=by omega
  have c:-(((a :: l).length:Nat):Int)<=-1:=by simp;omega
  rw[aaj b,LV c,List.getLast?_eq_getElem?];simp only[Option.bind]
  congr 1
  simp;omega
noncomputable def sA:Fn:=⟨2,2,(.cons (.iff (.cmp .eq (.v 0) (.lst .nil)) (.cons (.ret (.bin .mul (.c (.int 7)) (.v 1))) .nil) .nil) (.cons (.ret (.bin .add (.ix (.v 0) (.bin .mod (.v 1) (.bi .len (.cons (.v 0) .nil)))) (.bin .mul (.c (.int 6553)) (.bin .fdiv (.v 1) (.bi .len (.cons (.v 0) .nil)))))) .nil))⟩
noncomputable def sC(c:Nat):Fn:=⟨3,4,(.cons (.set 3 (.bin .mod (.bin .add (.bin .mul (.bin .mod (.cl c (.cons (.v 0) (.cons (.v 1) .nil))) (.c (.int 2147483563))) (.c (.int 69069))) (.bin .mul (.c (.int 104723)) (.bin .add (.v 1) (.c (.int 1))))) (.c (.int 2147483563)))) (.cons (.set 3 (.bin .mod (.bin .add (.bin .mul (.v 3) (.v 3)) (.bin .fdiv (.v 3) (.c (.int 3)))) (.c (.int 2147483399)))) (.cons (.ret (.bin .mod (.bin .fdiv (.bin .mod (.bin .add (.bin .mul (.v 3) (.v 3)) (.bin .fdiv (.v 3) (.c (.int 7)))) (.c (.int 2147483647))) (.c (.int 11))) (.v 2))) .nil)))⟩
noncomputable def vE(ns:List Int)(k:Int):Int:=if ns=[]then 7*k else (ns[(k % ns.length).toNat]?.getD 0)+6553*(k / ns.length)
noncomputable def dg(ns:List Int)(k many:Int):Int:=
 let c:=(vE ns k % 2147483563*69069+104723*(k+1)) % 2147483563
 let c:=(c*c+c / 3) % 2147483399
 (c*c+c / 7) % 2147483647 / 11 % many
def kJ(ns:List Int)(k:Int){many:Int}(h:0<many):0<=dg ns k many:=ab5 _ (by omega)
def kK(ns:List Int)(k:Int){many:Int}(h:0<many):dg ns k many<many:=abJ _ h
noncomputable def fZ(ns:List Int):V:=.bK (ns.map V.int)
def LI(ns:List Int):cU (dB (18+1)) (ns.map V.int) []=some (decide (ns=[])):=by cases ns<;>simp
section
variable{P:aS}{w:Nat}{fr af aq cI:Fr}{k b:Bool}{a e c:E}{es:Es}{ss sa sb:Ss}{st:S}{lo hi:Eo}{it:It}{v x y z:V}{vs:List V}{i:Nat}{l:List V}{Q:Fl->Fr->Prop}
def aX{d:D}(h:ofD d=some v):ev P k (.c d) fr=.ok v fr:=by rw[WS,h];rfl
def au(h:kF k fr i=some v):ev P k (.v i) fr=.ok v fr:=by rw[PR,h];rfl
def ef(h:bL P false es fr=.ok vs af)(h2:kE vs=some v):ev P k (.tup es) fr=.ok v af:=by rw[PU,h,ao,h2];rfl
def jc(h:bL P false es fr=.ok vs af)(h2:dD vs=some v):ev P k (.lst es) fr=.ok v af:=by rw[PV,h,ao,h2];rfl
def bu{o:bV}(h:ev P (kf a (aM e)) a fr=.ok x af)(h2:ev P true e af=.ok y aq)(h3:bW o x y=some v):ev P k (.bin o a e) fr=.ok v aq:=by rw[PX,h,ao,h2,ao,h3];rfl
def bG{o:bR}(h:ev P (kf a (aM e)) a fr=.ok x af)(h2:ev P true e af=.ok y aq)(h3:cop o x y=some b):ev P k (.cmp o a e) fr=.ok (.bl b) aq:=by rw[PY,h,ao,h2,ao,h3];rfl
def WV(h:ev P true a fr=.ok (.bl b) af):ev P k (.nt a) fr=.ok (.bl (!b)) af:=by rw[TV,h];rfl
def Ua{j:Int}(h:ev P true a fr=.ok (.int j) af):ev P k (.neg a) fr=.ok (.int (-j)) af:=by rw[PZ,h];rfl
def iB(h:aN P a fr=.ok b af)(h2:b=true->ev P k e af=.ok v aq)(h3:b=false->ev P k c af=.ok v aq):ev P k (.fW a e c) fr=.ok v aq:=by
 rw[P0,h,ao];cases b with
 |true=>exact h2 rfl
 |false=>exact h3 rfl
def fC(h:ev P (kf a (aM e)) a fr=.ok x af)(h2:ev P true e af=.ok y aq)(h3:gj x y=some v):ev P k (.ix a e) fr=.ok v aq:=by rw[TX,h,ao,h2,ao,h3];rfl
def Ub{kvs:List (List Nat×List Nat)}(h:kvs≠[]):ev P k (.nN kvs) fr=.ok (.fj kvs) fr:=by rw[ev,aaj h]
def IX(h:ev P (kf a (aM e)) a fr=.ok x af)(h2:ev P true e af=.ok y aq)(h3:xu x y=some v):ev P k (.nP a e) fr=.ok v aq:=by rw[ev,h,ao,h2,ao,h3];rfl
def xU{p q:Option Int}(h:ev P (kf a (iY lo++iY hi)) a fr=.ok x af)(h2:gk P lo af=.ok p aq)(h3:gk P hi aq=.ok q cI)(h4:fX x p q=some v):ev P k (.sl a lo hi) fr=.ok v cI:=by rw[TZ,h,ao,h2,ao,h3,ao,h4];rfl
def cz{f:Nat}{as:List (Nat ⊕ V)}(h:gm P es fr=.ok as af)(h2:gM P f as af=.ok v aq):ev P k (.cl f es) fr=.ok v aq:=by rw[T3,h,ao];exact h2
def fk{g:BI}(h:bL P true es fr=.ok vs af)(h2:cY g vs=some v):ev P k (.bi g es) fr=.ok v af:=by rw[T4,h,ao,h2];rfl
def qb{m:ME}(hm:jy m=true)(hl:(lent fr i).isSome=true)(h:bL P (DV m) es fr=.ok vs af)(h2:iN m i vs af af[i]?=.ok v aq):ev P k (.me m (.v i) es) fr=.ok v aq:=by
 rw[P1 hm,LV hl,h,ao,LF];exact h2
def vF{m:ME}(hm:jy m=false)(h:ev P (kf a (cW es)) a fr=.ok x af)(h2:bL P true es af=.ok vs aq)(h3:eF m x vs=some v):ev P k (.me m a es) fr=.ok v aq:=by rw[P4 hm,h,ao,h2,ao,h3];rfl
def eW{t:T}{cond:Eo}(h:dj P true it fr=.ok vs af)(hu:undef t af=true)(h2:cZ (jz P a t cond af) vs=some l)(h3:dD l=some v):ev P k (.comp a t it cond) fr=.ok v af:=by
 rw[tK,h,ao,LV hu,h2];show R.of (dD l) af=_;rw[h3];rfl
def B5(h:dj P true it fr=.ok vs af)(h2:dD vs=some v):ev P k (.jF it) fr=.ok v af:=by rw[P5,h,ao,h2];rfl
def B6(h:ev P true a fr=.ok x af)(h2:toT x=some v):ev P k (.jT a) fr=.ok v af:=by rw[P6,h,ao,h2];rfl
def aG:bL P k .nil fr=.ok [] fr:=Lq
def aB(h:ev P (k&&kf a (cW es)) a fr=.ok v af)(h2:bL P k es af=.ok vs aq):bL P k (.cons a es) fr=.ok (v :: vs) aq:=by rw[G5,h,ao,h2];rfl
def bz:gm P .nil fr=.ok [] fr:=Lr
def aP{as:List (Nat ⊕ V)}(hi:mE fr a=none)(h:ev P false a fr=.ok v af)(h2:gm P es af=.ok as aq):gm P (.cons a es) fr=.ok (.inr v :: as) aq:=by rw[xS,hi,BZ,h,ao,h2];rfl
def WX{as:List (Nat ⊕ V)}(hi:mE fr a=some i)(h2:gm P es fr=.ok as aq):gm P (.cons a es) fr=.ok (.inl i :: as) aq:=by rw[xS,hi,BY,h2];rfl
def Uc:gk P .no fr=.ok none fr:=P7
def jd{j:Int}(h:ev P true a fr=.ok (.int j) af):gk P (.yes a) fr=.ok (some j) af:=by rw[Ls,h];rfl
def xV(h:aN P a fr=.ok false af):aN P (.an a e) fr=.ok false af:=by rw[Ef,h];rfl
def jI{b2:Bool}(h:aN P a fr=.ok true af)(h2:aN P e af=.ok b2 aq):aN P (.an a e) fr=.ok b2 aq:=by rw[Ef,h];exact h2
def Ej(h:aN P a fr=.ok true af):aN P (.orr a e) fr=.ok true af:=by rw[AF,h];rfl
def sD{b2:Bool}(h:aN P a fr=.ok false af)(h2:aN P e af=.ok b2 aq):aN P (.orr a e) fr=.ok b2 aq:=by rw[AF,h];exact h2
def IY(h:aN P a fr=.ok b af):aN P (.nt a) fr=.ok (!b) af:=by rw[P9,h];rfl
noncomputable def plainT:E->Bool
 |.an _ _=>false
 |.orr _ _=>false
 |.nt _=>false
 |_=>true
def aE(hp:plainT a=true)(h:ev P true a fr=.ok x af)(h2:truthy x=b):aN P a fr=.ok b af:=by
 have:aN P a fr=(ev P true a fr).bind Qa:=by
  cases a<;>first | (cases hp;done) | (rw[aN];rfl;all_goals (intros;contradiction))
 rw[this,h,ao,Lv,h2]
def cO(h:src k fr a (ev P k a fr)=.ok x af)(h2:gI x=some vs):dj P k (.seq a) fr=.ok vs af:=by rw[Lx,h,ao,h2];rfl
def cT(h:BP k fr i=some v){r:R V}:src k fr (.v i) r=.ok v fr:=by rw[T7,h];rfl
def xW(h:bL P true es fr=.ok vs af)(h2:fE vs=some l):dj P k (.jh es) fr=.ok l af:=by rw[Ly,h,ao,h2];rfl
def Ek(h:ev P true a fr=.ok x af)(h2:BO x=some vs):dj P k (.rev a) fr=.ok vs.reverse af:=by rw[Lz,h,ao,h2];rfl
def AI(h:ev P false a fr=.ok v af):tP a fr=fr:=by
 cases a with
 |v j=>
  simp only[PR]at h;show fr.modify j _=fr;apply abh;intro i;rw[acU];cases z:fr[i]? with
  |none=>rfl
  |some o=>
   show some (if j=i then Option.map Sl.eE o else o)=some o;by_cases d:j=i
   .subst d;rw[LV rfl];unfold kF at h;rw[z]at h;rcases o with _|s
    .rfl
    .cases s with
     |own l=>cases h
     |_=>rfl
   .rw[aaj d]
 |_=>rfl
def aR(h:ev P false a fr=.ok v af)(hn:isNew a=false)(hp:put af i (.val v)=some aq)(q:Q .nx aq):Wp (ex P w (.set i a) fr) Q:=by
 rw[Eg,AI h,h,ao,hn,hp];exact⟨_,_,rfl,q⟩
def gz(h:ev P false a fr=.ok (.lst l) af)(hn:isNew a=true)(hp:put af i (.own l)=some aq)(q:Q .nx aq):Wp (ex P w (.set i a) fr) Q:=by
 rw[Eg,AI h,h,ao,hn,LV rfl,G6,hp];exact⟨_,_,rfl,q⟩
def fc(h:ev P true a fr=.ok v af)(q:Q .nx af):Wp (ex P w (.exp a) fr) Q:=by rw[Qd,h];exact⟨_,_,rfl,q⟩
def bS(h:ev P false a (fT fr)=.ok v af)(q:Q (.ret v) af):Wp (ex P w (.ret a) fr) Q:=by rw[Qe,h];exact⟨_,_,rfl,q⟩
def aI(h:aN P a fr=.ok b af)(h2:b=true->Wp (exs P w sa af) Q)(h3:b=false->Wp (exs P w sb af) Q):Wp (ex P w (.iff a sa sb) fr) Q:=by
 rw[Qf,h,ao];cases b with
 |true=>exact h2 rfl
 |false=>exact h3 rfl
def az(q:Q .nx fr):Wp (exs P w .nil fr) Q:=by rw[LA];exact⟨_,_,rfl,q⟩
def nx(P:aS)(w:Nat)(ss:Ss)(Q:Fl->Fr->Prop):Fl->Fr->Prop
 |.nx,fr=>Wp (exs P w ss fr) Q
 |g,fr=>Q g fr
def ah(q:Wp (ex P w st fr) (nx P w ss Q)):Wp (exs P w (.cons st ss) fr) Q:=by
 rw[G7,wp_bind];refine q.mono λg af z=>?_;cases g with
 |nx=>exact z
 |bk=>exact⟨_,_,rfl,z⟩
 |ct=>exact⟨_,_,rfl,z⟩
 |ret v=>exact⟨_,_,rfl,z⟩
def gQ{t:T}(h:dj P false it (lD (itv it) fr)=.ok vs af)(q:Wp (forL (turnF P w t ss) vs af) Q):Wp (ex P w (.for t it ss) fr) Q:=by rw[wD,h,ao];exact q
def Ud(q:Wp (eO (λaq=>aN P a aq) (λaq=>exs P w ss aq) w fr) Q):Wp (ex P w (.qt a ss) fr) Q:=by rw[Qh];exact q
def cJ{t:T}{d:V}(hb:cS t d fr=some af)(q:Wp (exs P w ss af) Q):Wp (turnF P w t ss d fr) Q:=by unfold turnF;rw[hb];exact q
def ig{t:T}{d:V}(hb:cS t d (uO fr)=some af)(h:ev P false a af=.ok v aq):jz P a t .no fr d=some (some v):=by
 unfold jz;rw[hb];dsimp only;rw[P8];dsimp only;rw[h];rfl
def gR{t:T}{d:V}(hb:cS t d (uO fr)=some af)(h:aN P c af=.ok b aq)(h2:b=true->ev P false a af=.ok v cI):jz P a t (.yes c) fr d=some (if b then some v else none):=by
 unfold jz;rw[hb];dsimp only;rw[Lu,h];dsimp only;cases b with
 |true=>rw[h2 rfl];rfl
 |false=>rfl
def gA{p q:List Nat}:cop .eq (.str p) (.str q)=some (decide (p=q)):=Ay
def gn{p q:List Nat}:cop .ne (.str p) (.str q)=some (!decide (p=q)):=by rw[o8,Ay];rfl
def tV{p q:Int}:cop .eq (.int p) (.int q)=some (decide (p=q)):=Ax
def sE{p q:Int}:cop .ne (.int p) (.int q)=some (!decide (p=q)):=by rw[o8,Ax];rfl
def G8{p q:Int}:cop .lt (.int p) (.int q)=some (decide (p<q)):=rfl
def xX{p q:Int}:cop .gt (.int p) (.int q)=some (decide (q<p)):=rfl
def lG{p q:Int}(h:cG p q=true):bW .mul (.int p) (.int q)=some (.int (p*q)):=by rw[qW,LV h]
def qc{p q:Int}(h:0<q):bW .mod (.int p) (.int q)=some (.int (p % q)):=by rw[Lm,LV h]
def vG{p q:Int}(h:0<q)(h2:q<1073741824):bW .fdiv (.int p) (.int q)=some (.int (p / q)):=by rw[G1,LV ⟨h,h2⟩]
end
def gD{fr:Fr}{i:Nat}{s:Sl}{o:Option Sl}(e:fr[i]?=some o)(h:vo o):put fr i s=some (fr.set i (some s)):=by rw[Ei,e,Qj h]
def fG{fr:Fr}{i j:Nat}{u v:V}{a b:Option Sl}(ea:fr[i]?=some a)(ha:vo a)(eb:(fr.set i (some (.val u)))[j]?=some b)(hb:vo b):cS (.many [i,j]) (.tup [u,v]) fr=some ((fr.set i (some (.val u))).set j (some (.val v))):=by
 simp only[B3,zo,B4,gD ea ha,Option.bind,gD eb hb]
def bind1{fr:Fr}{i:Nat}{v:V}{a:Option Sl}(ea:fr[i]?=some a)(ha:vo a):cS (.one i) v fr=some (fr.set i (some (.val v))):=gD ea ha
section
variable{P:aS}{fr af aq:Fr}{k:Bool}{es:Es}{v:V}{vs xs xs' l:List V}{i n:Nat}{c:Ev.Cl}{s:Sl}
def G9{o:Ev.FU}(h0:(kG c fr[i]?).isSome=true)(h:bL P true es fr=.ok vs af)(h1:kG c af[i]?=some l)(h2:xx c l n=some xs)(h3:IK o xs vs=some v):ev P k (.fu c o i n es) fr=.ok v af:=by
 rw[ev,LV h0,h,ao,h1];simp only;rw[h2];simp only[Option.bind];rw[h3];rfl
def Ql{o:Ev.FM}(h0:(kG c fr[i]?).isSome=true)(h:bL P false es fr=.ok vs af)(h1:Am c af[i]?=some (s,l))(h2:xx c l n=some xs)(h3:IL o xs vs=some (v,xs'))(h4:af.set i (some (s.with (l.set n (.tup xs'))))=aq):ev P k (.fm c o i n es) fr=.ok v aq:=by
 rw[ev,LV h0,h,ao,h1];simp only;rw[h2];simp only[Option.bind];rw[h3];simp only[cR,ao];rw[h4]
end
end Pv
theorem Pv.zq0{x v}(h:Pv.truthy x=v):Pv.truthy x=v:=h
theorem Pv.zq1{x y v}(h:Pv.gj x y=some v):Pv.gj x y=some v:=h
theorem Pv.zq2{x v}(h:Pv.toT x=some v):Pv.toT x=some v:=h
theorem Pv.zq3{x y v}(h:Pv.nc x y=some v):Pv.nc x y=some v:=h
theorem Pv.zq4{x v}(h:Pv.gI x=some v):Pv.gI x=some v:=h
local macro_rules|`(tactic|array_get_dec)=>do
 let n:=Lean.Syntax.node .none
 let a:=Lean.Syntax.atom .none
 let p k:=Lean.Name.mkStr `Lean.Parser.Tactic k
 let u k i:=n (p k) #[a k,i]
 let q l:=n (p "tacticSeq") #[n (p "tacticSeq1Indented") #[n `null l]]
 let t:=("eaG ebz eUc rau raX abu abG aef ajc afC axU acz afk aWV aUa aB6 aB5 dqb ovF aaB oaP oWX ajd aIY oaE eBV enq egO eTU ej3 eBW eTR w ecC exO egA egn etV esE eG8 exX rzq0 rzq1 rzq2 rzq3 rzq4 z".splitOn " ").toArray.map λs=>
  let c:=s.toList.head!
  let i:Lean.Syntax:=Lean.mkIdent (.mkStr `Pv (String.ofList s.toList.tail))
  let r:Lean.Syntax:=Lean.mkIdent `rfl
  let z:=#[n (p "assumption") #[a "assumption"]]
  n `null #[a "|",q (if c='e' then #[u "exact" i] else if c='z' then z else if c='w' then #[n (p "withReducible") #[a "with_reducible",q z]] else if c='a' then #[u "apply" i] else if c='r' then #[u "apply" i,a ";",n (p "tacticRfl") #[a "rfl"]] else #[u "apply" (n `Lean.Parser.Term.app #[i,n `null (if c='o' then #[r] else #[r,r])])])]
 pure (n (p "first") #[a "first",n `null t])
namespace Pv
open Ev (D bV bR TY BI ME T E Es Eo It S Ss Fn big deep b2i rep cG eV bU bg cut cX br slots)
def Qm(a b:Int):cG (a % 2147483563) b=true:=by have c:=ab5 a (b:=2147483563) (by decide);have d:=abJ a (b:=2147483563) (by decide);simp[cG];omega
def WY(a b:Int):cG (a % 2147483399) b=true:=by have c:=ab5 a (b:=2147483399) (by decide);have d:=abJ a (b:=2147483399) (by decide);simp[cG];omega
def Qn{l:List V}{j:Int}{v:V}(h:bU l j=some v):gj (.bK l) (.int j)=some v:=h
def Qo{l m:List V}:cop .eq (.bK l) (.lst m)=cU (dB (18+1)) l m:=rfl
def Hf{F:List Fn}{w n c:Nat}(hc:F[c]?=some sA){ns:List Int}(hn:ns.length<=63)(k:Int):run F w (n+1) c [.val (fZ ns),.val (.int k)]=some (.int (vE ns k),[]):=by
 refine bZ hc rfl (ah (aI (b:=decide (ns=[])) (aE rfl (bG (au rfl) (jc aG j3) (Qo.trans (LI ns))) rfl) (λh=>?_) λh=>az ?_))
 .have d:=aaN h;exact ah (bS (bu (aX rfl) (au rfl) (lG rfl)) ⟨by rw[vE,LV d],rfl⟩)
 .have d:=aba h;have a:0<ns.length:=List.length_pos_iff.mpr d;have Vj:(0:Int)<(ns.map V.int).length:=by rw[aaq];exact Int.natCast_pos.mpr a
  have e:((ns.map V.int).length:Int)<1073741824:=by rw[aaq];omega
  have f:=ab5 k (b:=(ns.length:Int)) (by omega);have g:(k % (ns.length:Int)).toNat<ns.length:=by have:=abJ k (b:=(ns.length:Int)) (by omega);omega
  have i:bU (ns.map V.int) (k % ((ns.map V.int).length:Int))=some (.int (ns[(k % (ns.length:Int)).toNat]?.getD 0)):=by
   rw[aaq,xT f,aaA,QJ g];rfl
  refine ah (bS (bu (fC (au rfl) (bu (au rfl) (fk (aB (au rfl) aG) AA) (qc Vj)) (Qn i)) (bu (aX rfl) (bu (au rfl) (fk (aB (au rfl) aG) AA) (vG Vj e)) (lG rfl)) cC) ⟨?_,rfl⟩);rw[vE,aaj d,aaq]
def fS{F:List Fn}{w n c dr:Nat}(hc:F[c]?=some sA)(hd:F[dr]?=some (sC c)){ns:List Int}(hn:ns.length<=63)(k:Int){many:Int}(hm:0<many):run F w (n+2) dr [.val (fZ ns),.val (.int k),.val (.int many)]=some (.int (dg ns k many),[]):=by
 refine bZ hd rfl (ah (aR (bu (bu (bu (bu (cz (aP rfl (au rfl) (aP rfl (au rfl) bz)) (call2 (Hf hc hn k))) (aX rfl) (qc (by decide))) (aX rfl) (lG (Qm _ _))) (bu (aX rfl) (bu (au rfl) (aX rfl) cC) (lG rfl)) cC) (aX rfl) (qc (by decide))) rfl rfl ?_));refine ah (aR (bu (bu (bu (au rfl) (au rfl) (lG (Qm _ _))) (bu (au rfl) (aX rfl) (vG (by decide) (by decide))) cC) (aX rfl) (qc (by decide))) rfl rfl ?_);exact ah (bS (bu (bu (bu (bu (bu (au rfl) (au rfl) (lG (WY _ _))) (bu (au rfl) (aX rfl) (vG (by decide) (by decide))) cC) (aX rfl) (qc (by decide))) (aX rfl) (vG (by decide) (by decide))) (au rfl) (qc hm)) ⟨rfl,rfl⟩)
noncomputable def fText(dr:Nat):Fn:=⟨3,4,(.cons (.ret (.me .join (.c (.str [])) (.cons (.comp (.ix (.c (.str [97,98,99,32])) (.cl dr (.cons (.v 0) (.cons (.bin .add (.bin .add (.v 1) (.c (.int 1))) (.v 3)) (.cons (.c (.int 4)) .nil))))) (.one 3) (.jh (.cons (.cl dr (.cons (.v 0) (.cons (.v 1) (.cons (.bin .add (.v 2) (.c (.int 1))) .nil)))) .nil)) .no) .nil))) .nil)⟩
noncomputable def IZ(dr:Nat):S:=.iff (.cmp .eq (.cl dr (.cons (.v 0) (.cons (.bin .add (.v 1) (.bin .mul (.c (.int 4)) (.v 4))) (.cons (.c (.int 4)) .nil)))) (.c (.int 0))) (.cons (.set 5 (.bin .mul (.ix (.c (.str [97,98,122])) (.cl dr (.cons (.v 0) (.cons (.bin .add (.bin .add (.v 1) (.bin .mul (.c (.int 4)) (.v 4))) (.c (.int 1))) (.cons (.c (.int 3)) .nil))))) (.bin .add (.c (.int 1)) (.cl dr (.cons (.v 0) (.cons (.bin .add (.bin .add (.v 1) (.bin .mul (.c (.int 4)) (.v 4))) (.c (.int 2))) (.cons (.c (.int 2)) .nil))))))) (.cons (.set 3 (.bin .add (.v 3) (.tup (.cons (.tup (.cons (.c (.str [112,117,116])) (.cons (.v 5) .nil))) .nil)))) .nil)) .nil
noncomputable def I0(dr:Nat):S:=.iff (.cmp .lt (.v 4) (.bi .len (.cons (.v 2) .nil))) (.cons (.set 6 (.cmp .gt (.cl dr (.cons (.v 0) (.cons (.bin .add (.bin .add (.v 1) (.bin .mul (.c (.int 4)) (.v 4))) (.c (.int 3))) (.cons (.c (.int 3)) .nil)))) (.c (.int 0)))) (.cons (.set 3 (.bin .add (.v 3) (.tup (.cons (.fW (.v 6) (.tup (.cons (.c (.str [107,101,101,112])) (.cons (.c (.int 1)) .nil))) (.tup (.cons (.c (.str [100,114,111,112])) (.cons (.ix (.v 2) (.v 4)) .nil)))) .nil)))) .nil)) .nil
noncomputable def AJ(dr:Nat):Fn:=⟨3,7,(.cons (.set 3 (.tup .nil)) (.cons (.for (.one 4) (.jh (.cons (.bin .add (.bi .len (.cons (.v 2) .nil)) (.c (.int 1))) .nil)) (.cons (IZ dr) (.cons (I0 dr) .nil))) (.cons (.ret (.v 3)) .nil)))⟩
inductive Pt where
 |keep (n:Nat)|put (s:List Nat)|drop (s:List Nat)
deriving DecidableEq
noncomputable def ff:List Nat:=[107,101,101,112]
noncomputable def o9:List Nat:=[112,117,116]
noncomputable def lJ:List Nat:=[100,114,111,112]
noncomputable def Pt.v:Pt->V
 |.keep n=>.tup [.str ff,.int n]
 |.put s=>.tup [.str o9,.str s]
 |.drop s=>.tup [.str lJ,.str s]
noncomputable def aY(c:List Pt):V:=.tup (c.map Pt.v)
noncomputable def txt(ns:List Int)(at_ most:Int):List Nat:=(List.range (dg ns at_ (most+1)).toNat).map λ(k:Nat)=>[97,98,99,32].getD (dg ns (at_+1+k) 4).toNat 0
def LJ(ns:List Int)(at_:Int){most:Int}(h:0<=most):(txt ns at_ most).length<=most.toNat:=by
 unfold txt;have a:=kK ns at_ (many:=most+1) (by omega);have b:=kJ ns at_ (many:=most+1) (by omega);simp;omega
def getD_at{α:Type}{l:List α}{i:Int}(h0:0<=i)(h1:i<l.length)(d:α):bU l i=some (l.getD i.toNat d):=by
 have:i.toNat<l.length:=by omega
 rw[xT h0];simp[List.getD,QJ this]
def qA{α β:Type}(l:List α)(f:α->β):(l.map λx=>[f x]).flatten=l.map f:=by induction l<;>simp[*]
def El(lo:Int)(n:Nat):range lo n=(List.range n).map λ(i:Nat)=>V.int (lo+i):=rfl
section
variable{F:List Fn}{w n c dr t:Nat}(hc:F[c]?=some sA)(hd:F[dr]?=some (sC c)){ns:List Int}(hn:ns.length<=63)
include hc hd hn
theorem Hg(ht:F[t]?=some (fText dr))(k most:Int)(hm:0<=most)(hm2:most<=1000):run F w (n+3) t [.val (fZ ns),.val (.int k),.val (.int most)]=some (.str (txt ns k most),[]):=by
 have b:=kJ ns k (many:=most+1) (by omega);have g:=kK ns k (many:=most+1) (by omega);have d:=λfr=>fF (fr:=fr) (fS (w:=w) (n:=n) hc hd hn k (many:=most+1) (by omega));have Ue:cZ (jz (run F w (n+2)) (.ix (.c (.str [97,98,99,32])) (.cl dr (.cons (.v 0) (.cons (.bin .add (.bin .add (.v 1) (.c (.int 1))) (.v 3)) (.cons (.c (.int 4)) .nil))))) (.one 3) .no [some (.val (fZ ns)),some (.val (.int k)),some (.val (.int most)),none]) (range 0 (dg ns k (most+1)).toNat)=some (((List.range (dg ns k (most+1)).toNat).map λ(j:Nat)=>[[97,98,99,32].getD (dg ns (k+1+j) 4).toNat 0]).map V.str):=by
  rw[El,ab0];refine fy _ _ _ λj _=>?_;have e:=λfr=>fF (fr:=fr) (fS (w:=w) (n:=n) hc hd hn (k+1+j) (many:=4) (by decide));have h:gj (.str [97,98,99,32]) (.int (dg ns (k+1+j) 4))=some (.str [[97,98,99,32].getD (dg ns (k+1+j) 4).toNat 0]):=by
   rw[tT,getD_at (l:=[97,98,99,32]) (kJ ns (k+1+j) (many:=4) (by decide)) (kK ns (k+1+j) (many:=4) (by decide)) 0];rfl
  rw[show(0:Int)+(j:Int)=j from ab1 _];exact ig rfl (by (repeat (first|array_get_dec|exact e _)))
 have a:=IW (l:=(List.range (dg ns k (most+1)).toNat).map λ(j:Nat)=>[[97,98,99,32].getD (dg ns (k+1+j) 4).toNat 0]) (by rw[qA];simp;omega);rw[qA]at a;have Oo:dD (((List.range (dg ns k (most+1)).toNat).map λ(j:Nat)=>[[97,98,99,32].getD (dg ns (k+1+j) 4).toNat 0]).map V.str)=some (.lst _):=cB (bH (by simp;omega));have f:=PN b (show dg ns k (most+1)<=100000 by omega);refine bZ ht rfl (ah (bS (vF rfl (aX rfl) (aB (eW (xW (by (repeat (first|array_get_dec|exact d _))) f) rfl Ue Oo) aG) a) ⟨rfl,rfl⟩))
end
noncomputable def j4(ns:List Int)(at_:Int)(s:List Nat)(k:Nat):List Pt:=
 (if dg ns (at_+4*k) 4=0 then [.put (rep (1+dg ns (at_+4*k+2) 2).toNat [[97,98,122].getD (dg ns (at_+4*k+1) 3).toNat 0])]else [])++
 (match s[k]? with
 |some c=>[if 0<dg ns (at_+4*k+3) 3 then .keep 1 else .drop [c]]
 |none=>[])
noncomputable def fV(ns:List Int)(at_:Int)(s:List Nat)(k:Nat):List Pt:=(List.range k).flatMap (j4 ns at_ s)
noncomputable def chg(ns:List Int)(at_:Int)(s:List Nat):List Pt:=fV ns at_ s (s.length+1)
def Em(ns:List Int)(at_:Int)(s:List Nat)(k:Nat):(j4 ns at_ s k).length<=2:=by
 unfold j4;split<;>split<;>simp
def j5(ns:List Int)(at_:Int)(s:List Nat)(k:Nat):fV ns at_ s (k+1)=fV ns at_ s k++j4 ns at_ s k:=by simp[fV,abG]
theorem pe(ns:List Int)(at_:Int)(s:List Nat):∀k,(fV ns at_ s k).length<=2*k
 |0=>by simp[fV]
 |k+1=>by
  have a:=Em ns at_ s k;have b:=pe ns at_ s k;rw[j5,aam];omega
def Qp(i:Int):cG 4 i=true:=by simp[cG]
def B7{a b:List Pt}(h:a.length+b.length<=100000):bW .add (aY a) (aY b)=some (aY (a++b)):=by
 simp only[aY];rw[qV (by simpa using h)];simp
def Qq{j:Int}{n:Nat}(h:n<=100000)(e:j=n):fE [.int j]=some (range 0 n):=by
 subst e;rw[PN (by omega) (by omega)];rfl
def LK{a:List Pt}{s:List Nat}(h:a.length<100000):bW .add (aY a) (.tup [.tup [.str [112,117,116],.str s]])=some (aY (a++[.put s])):=B7 (a:=a) (b:=[.put s]) (by simp;omega)
def Hi{a:List Pt}{s:List Nat}(h:a.length<100000):bW .add (aY a) (.tup [.tup [.str [100,114,111,112],.str s]])=some (aY (a++[.drop s])):=B7 (a:=a) (b:=[.drop s]) (by simp;omega)
def Hj{a:List Pt}(h:a.length<100000):bW .add (aY a) (.tup [.tup [.str [107,101,101,112],.int 1]])=some (aY (a++[.keep 1])):=B7 (a:=a) (b:=[.keep 1]) (by simp;omega)
section
variable{F:List Fn}{w n c dr t:Nat}(hc:F[c]?=some sA)(hd:F[dr]?=some (sC c)){ns:List Int}(hn:ns.length<=63)
include hc hd hn
theorem Hl(k:Int)(x:V)(fd:List Pt)(j:Nat)(u v:Option Sl)(hu:vo u)(hfd:fd.length<=10000) :
  Wp (ex (run F w (n+2)) w (IZ dr) [some (.val (fZ ns)),some (.val (.int k)),some (.val x),some (.val (aY fd)),some (.val (.int j)),u,v]) λg fr=>g=.nx/\∃b,vo b/\fr=[some (.val (fZ ns)),some (.val (.int k)),some (.val x),some (.val (aY (fd++if dg ns (k+4*j) 4=0 then [.put (rep (1+dg ns (k+4*j+2) 2).toNat [[97,98,122].getD (dg ns (k+4*j+1) 3).toNat 0])]else []))),some (.val (.int j)),b,v]:=by
 have e:=λfr=>fF (fr:=fr) (fS (w:=w) (n:=n) hc hd hn (k+4*j) (many:=4) (by decide));have o:bW .mul (.int 4) (.int j)=some (.int (4*j)):=by rw[qW,Qp];rfl
 refine aI (by (repeat (first|array_get_dec|exact e _))) (λh=>?_) λh=>?_
 .have d:=aaN h;have f:=λfr=>fF (fr:=fr) (fS (w:=w) (n:=n) hc hd hn (k+4*j+1) (many:=3) (by decide));have i:=λfr=>fF (fr:=fr) (fS (w:=w) (n:=n) hc hd hn (k+4*j+2) (many:=2) (by decide));have p:=kJ ns (k+4*j+2) (many:=2) (by decide);have q:=kK ns (k+4*j+2) (many:=2) (by decide);have r:gj (.str [97,98,122]) (.int (dg ns (k+4*j+1) 3))=some (.str [[97,98,122].getD (dg ns (k+4*j+1) 3).toNat 0]):=by
   rw[tT,getD_at (l:=[97,98,122]) (kJ ns (k+4*j+1) (many:=3) (by decide)) (kK ns (k+4*j+1) (many:=3) (by decide)) 0];rfl
  have y:=G0 (j:=1+dg ns (k+4*j+2) 2) (a:=[[97,98,122].getD (dg ns (k+4*j+1) 3).toNat 0]) (by omega) (by omega) (by simp);have z:=LK (a:=fd) (s:=rep (1+dg ns (k+4*j+2) 2).toNat [[97,98,122].getD (dg ns (k+4*j+1) 3).toNat 0]) (by omega);refine ah (aR (by (repeat (first|array_get_dec|exact f _|exact i _))) rfl (gD rfl hu) ?_);refine ah (aR (by repeat array_get_dec) rfl rfl (az ?_));rw[LV d];exact⟨rfl,_,.val,rfl⟩
 .have d:=aba h;rw[aaj d,aaD];exact az ⟨rfl,u,hu,rfl⟩
theorem Ho(k:Int)(x:List Nat)(hx:x.length<=1000)(fd:List Pt)(j:Nat)(u v:Option Sl)(hv:vo v)(hfd:fd.length<=10000) :
  Wp (ex (run F w (n+2)) w (I0 dr) [some (.val (fZ ns)),some (.val (.int k)),some (.val (.str x)),some (.val (aY fd)),some (.val (.int j)),u,v]) λg fr=>g=.nx/\∃b,vo b/\fr=[some (.val (fZ ns)),some (.val (.int k)),some (.val (.str x)),some (.val (aY (fd++match x[j]? with
     |some c=>[if 0<dg ns (k+4*j+3) 3 then .keep 1 else .drop [c]]
     |none=>[]))),some (.val (.int j)),u,b]:=by
 have p:cY .len [.str x]=some (.int (x.length:Nat)):=abC (by omega);refine aI (by repeat array_get_dec) (λh=>?_) λh=>?_
 .have d:j<x.length:=by have:=aaN h;omega
  have o:=λfr=>fF (fr:=fr) (fS (w:=w) (n:=n) hc hd hn (k+4*j+3) (many:=3) (by decide));have q:bW .mul (.int 4) (.int j)=some (.int (4*j)):=by rw[qW,Qp];rfl
  have l:x[j]?=some x[j]:=QJ d;have r:gj (.str x) (.int j)=some (.str [x[j]]):=by rw[tT,zC,l];rfl
  rw[l];refine ah (aR (by (repeat (first|array_get_dec|exact o _))) rfl (gD rfl hv) ?_);by_cases e:0<dg ns (k+4*j+3) 3
  .have f:=Hj (a:=fd) (by omega);have i:truthy (.bl (decide (0<dg ns (k+4*j+3) 3)))=true:=aaV e;refine ah (aR (bu (au rfl) (ef (aB (iB (b:=true) (aE rfl (au rfl) i) (λ_=>by repeat array_get_dec) λh=>absurd h (by decide)) aG) nq) f) rfl rfl (az ?_));refine⟨rfl,some (.val (.bl (decide (0<dg ns (k+4*j+3) 3)))),.val,?_⟩;simp only[LV e];rfl
  .have f:=Hi (a:=fd) (s:=[x[j]]) (by omega);have i:truthy (.bl (decide (0<dg ns (k+4*j+3) 3)))=false:=aav e;refine ah (aR (bu (au rfl) (ef (aB (iB (b:=false) (aE rfl (au rfl) i) (zD ·) λ_=>by repeat array_get_dec) aG) nq) f) rfl rfl (az ?_));refine⟨rfl,some (.val (.bl (decide (0<dg ns (k+4*j+3) 3)))),.val,?_⟩;simp only[aaj e];rfl
 .have d:¬ j<x.length:=by have:=aba h;omega
  rw[aar (by omega),aaD];exact az ⟨rfl,v,hv,rfl⟩
theorem B8(ht:F[t]?=some (AJ dr))(k:Int)(x:List Nat)(hx:x.length<=1000):run F w (n+3) t [.val (fZ ns),.val (.int k),.val (.str x)]=some (aY (chg ns k x),[]):=by
 refine bZ ht rfl ?_;have y:cY .len [.str x]=some (.int (x.length:Nat)):=abC (by omega);have z:fE [.int ((x.length:Nat)+1)]=some (range 0 (x.length+1)):=Qq (by omega) (by omega);refine ah (aR (by repeat array_get_dec) rfl rfl ?_);refine ah (gQ (xW (aB (bu (fk (aB (au rfl) aG) y) (aX rfl) cC) aG) z) ?_);refine AD (λj h=>∃a b c,vo a/\vo b/\vo c/\h=[some (.val (fZ ns)),some (.val (.int k)),some (.val (.str x)),some (.val (aY (fV ns k x j))),a,b,c]) (λj h C ⟨a,b,d,i,l,e,f⟩=>?_) (λh ⟨a,b,d,i,l,e,f⟩=>?_) ⟨none,none,none,.none,.none,.none,rfl⟩
 .subst f;have G:=pe ns k x j;rw[show(0:Int)+(j:Int)=j from ab1 _];refine cJ (bind1 rfl i) (ah ?_);refine(Hl hc hd hn k (.str x) (fV ns k x j) j b d l (by omega)).mono λg h ⟨o,r,p,q⟩=>?_;subst o q;refine ah ?_;refine(Ho hc hd hn k x hx _ j r d e (by split<;>simp<;>omega)).mono λg h ⟨o,A,Yz,q⟩=>?_;subst o q;refine az ?_;rw[dG];refine⟨some (.val (.int j)),r,A,.val,p,Yz,?_⟩;rw[j5,j4,aaO]
 .subst f;refine ah (bS (v:=aY (chg ns k x)) (af:=[some (.val (fZ ns)),some (.val (.int k)),some (.val (.str x)),some (.val (aY (fV ns k x (x.length+1)))),a,b,d]) ?_ ⟨rfl,rfl⟩);have B:fT [some (.val (fZ ns)),some (.val (.int k)),some (.val (.str x)),some (.val (aY (fV ns k x (x.length+1)))),a,b,d]=[some (.val (fZ ns)),some (.val (.int k)),some (.val (.str x)),some (.val (aY (fV ns k x (x.length+1)))),a,b,d]:=by
   show _ :: _ :: _ :: _ :: a.map Sl.eE :: b.map Sl.eE :: [d.map Sl.eE]=_;rw[dh i,dh l,dh e];rfl
  rw[B];exact au rfl
end
noncomputable def fz:Fn:=⟨1,1,(.cons (.iff (.cmp .eq (.ix (.v 0) (.c (.int 0))) (.c (.str [107,101,101,112]))) (.cons (.ret (.ix (.v 0) (.c (.int 1)))) .nil) .nil) (.cons (.ret (.bi .len (.cons (.ix (.v 0) (.c (.int 1))) .nil))) .nil))⟩
noncomputable def nB(dY:Nat):Fn:=⟨1,2,(.cons (.ret (.bi .sum (.cons (.comp (.cl dY (.cons (.v 1) .nil)) (.one 1) (.seq (.v 0)) (.yes (.cmp .ne (.ix (.v 1) (.c (.int 0))) (.c (.str [112,117,116]))))) .nil))) .nil)⟩
noncomputable def qd(dY:Nat):Fn:=⟨1,2,(.cons (.ret (.bi .sum (.cons (.comp (.cl dY (.cons (.v 1) .nil)) (.one 1) (.seq (.v 0)) (.yes (.cmp .ne (.ix (.v 1) (.c (.int 0))) (.c (.str [100,114,111,112]))))) .nil))) .nil)⟩
noncomputable def Qs(dY:Nat):Fn:=⟨1,2,(.cons (.ret (.bi .sum (.cons (.comp (.cl dY (.cons (.v 1) .nil)) (.one 1) (.seq (.v 0)) (.yes (.cmp .ne (.ix (.v 1) (.c (.int 0))) (.c (.str [107,101,101,112]))))) .nil))) .nil)⟩
noncomputable def mJ(uS:Nat):Fn:=⟨1,7,(.cons (.set 1 (.lst .nil)) (.cons (.set 2 (.c (.int 0))) (.cons (.set 3 (.c (.str []))) (.cons (.set 4 (.c (.str []))) (.cons (.for (.many [5,6]) (.seq (.v 0)) (.cons (.iff (.cmp .eq (.v 5) (.c (.str [100,114,111,112]))) (.cons (.set 3 (.bin .add (.v 3) (.v 6))) .nil) (.cons (.iff (.cmp .eq (.v 5) (.c (.str [112,117,116]))) (.cons (.set 4 (.bin .add (.v 4) (.v 6))) .nil) (.cons (.iff (.cmp .gt (.v 6) (.c (.int 0))) (.cons (.iff (.orr (.cmp .ne (.v 3) (.c (.str []))) (.cmp .ne (.v 4) (.c (.str [])))) (.cons (.exp (.me .extend (.v 1) (.cons (.cl uS (.cons (.v 2) (.cons (.v 3) (.cons (.v 4) .nil)))) .nil))) (.cons (.set 2 (.c (.int 0))) (.cons (.set 3 (.c (.str []))) (.cons (.set 4 (.c (.str []))) .nil)))) .nil) (.cons (.set 2 (.bin .add (.v 2) (.v 6))) .nil)) .nil) .nil)) .nil)) .nil)) (.cons (.exp (.me .extend (.v 1) (.cons (.cl uS (.cons (.v 2) (.cons (.v 3) (.cons (.v 4) .nil)))) .nil))) (.cons (.ret (.jT (.v 1))) .nil)))))))⟩
noncomputable def qB:S:=.iff (.cmp .ne (.v 1) (.c (.str []))) (.cons (.exp (.me .append (.v 3) (.cons (.tup (.cons (.c (.str [100,114,111,112])) (.cons (.v 1) .nil))) .nil))) .nil) .nil
noncomputable def lW:S:=.iff (.cmp .ne (.v 2) (.c (.str []))) (.cons (.exp (.me .append (.v 3) (.cons (.tup (.cons (.c (.str [112,117,116])) (.cons (.v 2) .nil))) .nil))) .nil) .nil
noncomputable def jA:S:=.ret (.v 3)
noncomputable def gE:Fn:=⟨3,4,(.cons (.set 3 (.lst .nil)) (.cons (.iff (.cmp .gt (.v 0) (.c (.int 0))) (.cons (.exp (.me .append (.v 3) (.cons (.tup (.cons (.c (.str [107,101,101,112])) (.cons (.v 0) .nil))) .nil))) .nil) .nil) (.cons qB (.cons lW (.cons jA .nil)))))⟩
noncomputable def Pt.n:Pt->Nat
 |.keep n=>n
 |.put s=>s.length
 |.drop s=>s.length
noncomputable def tot(c:List Pt):Nat:=(c.map Pt.n).sum
def ee(a b:List Pt):tot (a++b)=tot a+tot b:=by simp[tot]
def bB(p:Pt)(c:List Pt):tot (p :: c)=p.n+tot c:=by simp[tot]
noncomputable def cL:Pt->Bool
 |.put _=>true
 |_=>false
noncomputable def ek:Pt->Bool
 |.drop _=>true
 |_=>false
noncomputable def fN:Pt->Bool
 |.keep _=>true
 |_=>false
noncomputable def ay(c:List Pt):Nat:=tot (c.filter λp=>!cL p)
noncomputable def ir(c:List Pt):Nat:=tot (c.filter λp=>!ek p)
noncomputable def cst(c:List Pt):Nat:=tot (c.filter λp=>!fN p)
section
variable{F:List Fn}{w n aK i:Nat}
def jm(hs:F[i]?=some fz)(p:Pt)(hp:p.n<=100000):run F w (n+1) i [.val p.v]=some (.int p.n,[]):=by
 cases p with
 |keep k=>exact bZ hs rfl (ah (aI (b:=true) (aE rfl (bG (fC (au rfl) (aX rfl) rfl) (aX rfl) gA) rfl) (λ_=>ah (bS (fC (au rfl) (aX rfl) rfl) ⟨rfl,rfl⟩)) nofun))
 |put s=>exact bZ hs rfl (ah (aI (b:=false) (aE rfl (bG (fC (au rfl) (aX rfl) rfl) (aX rfl) gA) rfl) nofun (λ_=>az (ah (bS (fk (aB (fC (au rfl) (aX rfl) rfl) aG) (abC hp)) ⟨rfl,rfl⟩)))))
 |drop s=>exact bZ hs rfl (ah (aI (b:=false) (aE rfl (bG (fC (au rfl) (aX rfl) rfl) (aX rfl) gA) rfl) nofun (λ_=>az (ah (bS (fk (aB (fC (au rfl) (aX rfl) rfl) aG) (abC hp)) ⟨rfl,rfl⟩)))))
def WZ{c:List Pt}{p:Pt}(h:p∈c):p.n<=tot c:=by
 induction c with
 |nil=>simp at h
 |cons q c a=>
  rw[bB];rcases List.mem_cons.mp h with rfl|h
  .omega
  .have:=a h;omega
def Ug(c:List Pt):(c.map λp=>(p.n:Int)).sum=(tot c:Int):=by
 induction c with
 |nil=>rfl
 |cons p c a=>simp only[aai,List.sum_cons,a,bB];omega
def AK{word:List Nat}{pr:Pt->Bool}(hs:F[aK]?=some fz)(hb:F[i]?=some ⟨1,2,.cons (.ret (.bi .sum (.cons (.comp (.cl aK (.cons (.v 1) .nil)) (.one 1) (.seq (.v 0)) (.yes (.cmp .ne (.ix (.v 1) (.c (.int 0))) (.c (.str word))))) .nil))) .nil⟩)
  (hw:∀p:Pt,∃x u,p.v=.tup [.str x,u]/\(!decide (x=word))=pr p) (c:List Pt) (h1:c.length<=10000) (h2:tot c<=100000):run F w (n+2) i [.val (aY c)]=some (.int (tot (c.filter pr)),[]):=by
 refine bZ hb rfl (ah (bS (fk (aB (eW (cO (cT rfl) rfl) rfl (fM (e:=Pt.v) (p:=pr) (g:=λp=>.int p.n) c λp d=>?_) (cB (bH ?_))) aG) ?_) ⟨rfl,rfl⟩))
 .obtain⟨x,u,b,YA⟩:=hw p;have a:=λfr=>fU (fr:=fr) (jm (w:=w) (n:=n) hs p (aas (WZ d) h2));rw[b]at a;rw[b,<-YA];exact gR rfl (aE rfl (bG (fC (au rfl) (aX rfl) rfl) (aX rfl) gn) rfl) λ_=>cz (aP rfl (au rfl) bz) (a _)
 .rw[aaq];exact aas (List.length_filter_le _ _) (aas h1 (by decide))
 .rw[tU,ny (λp:Pt=>(p.n:Int))];show some (V.int _)=_;rw[Ug]
def B9(hs:F[aK]?=some fz)(hb:F[i]?=some (nB aK))(c:List Pt)(h1:c.length<=10000)(h2:tot c<=100000):run F w (n+2) i [.val (aY c)]=some (.int (ay c),[]):=
 AK (pr:=λp=>!cL p) hs hb (λp=>by cases p<;>exact⟨_,_,rfl,rfl⟩) c h1 h2
def En(hs:F[aK]?=some fz)(hb:F[i]?=some (qd aK))(c:List Pt)(h1:c.length<=10000)(h2:tot c<=100000):run F w (n+2) i [.val (aY c)]=some (.int (ir c),[]):=
 AK (pr:=λp=>!ek p) hs hb (λp=>by cases p<;>exact⟨_,_,rfl,rfl⟩) c h1 h2
end
noncomputable def cE(k:Nat)(g w:List Nat):List Pt:=(if 0<k then [.keep k]else [])++(if g=[]then []else [.drop g])++(if w=[]then []else [.put w])
def lX(k:Nat)(g w:List Nat):(cE k g w).length<=3:=by unfold cE;split<;>split<;>split<;>simp
def qC{F:List Fn}{w n i:Nat}(hs:F[i]?=some gE)(k:Nat)(g x:List Nat):run F w (n+1) i [.val (.int k),.val (.str g),.val (.str x)]=some (.lst ((cE k g x).map Pt.v),[]):=by
 refine bZ hs rfl ?_;refine ah (gz (l:=[]) (by repeat array_get_dec) rfl rfl ?_);have c:∀(l:List V) (d:V) (a:Fr) (i:Nat),l.length<=3->a[i]?=some (some (.own l))->iN .append i [d] a a[i]?=.ok .aD (a.set i (some (.own (l++[d])))):=λl d a i h e=>by rw[e];exact qa (by omega)
 have fin:∀l:List V,Wp (exs (run F w n) w (.cons jA .nil) [some (.val (.int k)),some (.val (.str g)),some (.val (.str x)),some (.own l)]) λg a=>g=.ret (.lst l)/\outs 3 a=[]:=λl=>ah (bS (by repeat array_get_dec) ⟨rfl,rfl⟩);have s3:∀l:List V,l.length<=2->Wp (exs (run F w n) w (.cons lW (.cons jA .nil)) [some (.val (.int k)),some (.val (.str g)),some (.val (.str x)),some (.own l)]) λg a=>g=.ret (.lst (l++(if x=[]then []else [Pt.put x]).map Pt.v))/\outs 3 a=[]:=λl f=>by
  refine ah (aI (by repeat array_get_dec) (λh=>?_) λh=>?_)
  .have b:x≠[]:=by simpa using h
   refine ah (fc (by (repeat array_get_dec);exact c _ _ _ _ (by omega) rfl) (az ?_));rw[aaj b];exact fin _
  .have b:x=[]:=by simpa using h
   refine az ?_;rw[LV b,aco,aaD];exact fin _
 have s2:∀l:List V,l.length<=1->Wp (exs (run F w n) w (.cons qB (.cons lW (.cons jA .nil))) [some (.val (.int k)),some (.val (.str g)),some (.val (.str x)),some (.own l)]) λy a=>y=.ret (.lst (l++((if g=[]then []else [Pt.drop g])++(if x=[]then []else [Pt.put x])).map Pt.v))/\outs 3 a=[]:=λl f=>by
  refine ah (aI (by repeat array_get_dec) (λh=>?_) λh=>?_)
  .have b:g≠[]:=by simpa using h
   refine ah (fc (by (repeat array_get_dec);exact c _ _ _ _ (by omega) rfl) (az ?_));rw[aaj b,aao,<-aaO];exact s3 _ (by simp;omega)
  .have b:g=[]:=by simpa using h
   refine az ?_;rw[LV b,acD];exact s3 _ (by omega)
 refine ah (aI (by repeat array_get_dec) (λh=>?_) λh=>?_)
 .have b:0<k:=by have:=aaN h;omega
  refine ah (fc (by (repeat array_get_dec);exact c _ _ _ _ (by decide) rfl) (az ?_));unfold cE;rw[LV b,aaO];exact s2 _ (aae 1)
 .have b:¬ 0<k:=by have:=aba h;omega
  refine az ?_;unfold cE;rw[aaj b];exact s2 _ (by decide)
abbrev FS:=List Pt×Nat×List Nat×List Nat
noncomputable def bT(st:FS):Pt->FS
 |.drop s=>(st.1,st.2.1,st.2.2.1++s,st.2.2.2)
 |.put s=>(st.1,st.2.1,st.2.2.1,st.2.2.2++s)
 |.keep k=>if 0<k then (if st.2.2.1=[]/\st.2.2.2=[]then (st.1,st.2.1+k,[],[])else (st.1++cE st.2.1 st.2.2.1 st.2.2.2,k,[],[]))else st
noncomputable def fO:FS:=([],0,[],[])
noncomputable def dM(st:FS):List Pt:=st.1++cE st.2.1 st.2.2.1 st.2.2.2
noncomputable def bE(c:List Pt):List Pt:=dM (c.foldl bT fO)
def LL(p:List Pt)(a:Pt):(p++[a]).foldl bT fO=bT (p.foldl bT fO) a:=by simp
def xY(c:List Pt):∀st:FS,(c.foldl bT st).1.length<=st.1.length+3*c.length/\(c.foldl bT st).2.2.1.length<=st.2.2.1.length+tot c/\(c.foldl bT st).2.2.2.length<=st.2.2.2.length+tot c:=by
 induction c with
 |nil=>intro st;simp[tot]
 |cons p c a=>
  intro st;have h:=a (bT st p);have b:(bT st p).1.length<=st.1.length+3/\(bT st p).2.2.1.length<=st.2.2.1.length+p.n/\(bT st p).2.2.2.length<=st.2.2.2.length+p.n:=by
   have:=lX st.2.1 st.2.2.1 st.2.2.2;cases p with
   |drop s=>simp[bT,Pt.n]
   |put s=>simp[bT,Pt.n]
   |keep k=>
    simp only[bT];split
    .split
     .simp
     .simp;omega
    .simp
  simp only[aaL,aal,bB];omega
def nC{F:List Fn}{w n bX i:Nat}(hs:F[bX]?=some gE)(hf:F[i]?=some (mJ bX))(c:List Pt)(h1:c.length<=10000)(h2:tot c<=10000):run F w (n+2) i [.val (aY c)]=some (aY (bE c),[]):=by
 refine bZ hf rfl ?_;refine ah (gz (l:=[]) (by repeat array_get_dec) rfl rfl ?_);refine ah (aR (by repeat array_get_dec) rfl rfl ?_);refine ah (aR (by repeat array_get_dec) rfl rfl ?_);refine ah (aR (by repeat array_get_dec) rfl rfl ?_);refine ah (gQ (vs:=c.map Pt.v) (cO (cT rfl) rfl) ?_);have ext:∀(d:FS) (fr:Fr),d.1.length<=30010->iN .extend 1 [.lst ((cE d.2.1 d.2.2.1 d.2.2.2).map Pt.v)] fr (some (some (.own (d.1.map Pt.v))))=.ok .aD (fr.set 1 (some (.own ((dM d).map Pt.v)))):=λd fr h=>by
  have:=lX d.2.1 d.2.2.1 d.2.2.2;unfold dM;rw[aao];exact kc (by simp;omega)
 refine ez (e:=Pt.v) (λp l fr=>p++l=c/\∃a b,vo a/\vo b/\fr=[some (.val (aY c)),some (.own ((p.foldl bT fO).1.map Pt.v)),some (.val (.int (p.foldl bT fO).2.1)),some (.val (.str (p.foldl bT fO).2.2.1)),some (.val (.str (p.foldl bT fO).2.2.2)),a,b]) (λp x l fr ⟨f,a,b,q,r,g⟩=>?_) (λp fr ⟨f,a,b,q,r,g⟩=>?_) c [] _ ⟨rfl,none,none,.none,.none,rfl⟩
 .subst g;obtain⟨A,B,C⟩:=xY p fO;have I:p.length+l.length+1=c.length:=by rw[<-f];simp;omega
  have J:tot p+x.n+tot l=tot c:=by rw[<-f,ee,bB];omega
  rw[LL];have o:(p++[x])++l=c:=by simpa using f
  generalize p.foldl bT fO=d at *
  simp[fO]at A B C;have G:=λfr=>fF (fr:=fr) (qC (w:=w) (n:=n) hs d.2.1 d.2.2.1 d.2.2.2);have ex:=λfr=>ext d fr (by omega);cases x with
  |drop s=>
   have hs:s.length<=tot c:=by simp only[Pt.n]at J;omega
   have K:=nu (a:=d.2.2.1) (b:=s) (by omega);refine cJ (fG rfl q rfl r) (ah (aI (by repeat array_get_dec) (λ_=>?_) λh=>absurd h (by decide)));refine ah (aR (by repeat array_get_dec) rfl rfl (az (az ?_)));rw[dG];exact⟨o,_,_,.val,.val,rfl⟩
  |put s=>
   have hs:s.length<=tot c:=by simp only[Pt.n]at J;omega
   have K:=nu (a:=d.2.2.2) (b:=s) (by omega);refine cJ (fG rfl q rfl r) (ah (aI (by repeat array_get_dec) (zD ·) λ_=>?_));refine ah (aI (by repeat array_get_dec) (λ_=>?_) λh=>absurd h (by decide));refine ah (aR (by repeat array_get_dec) rfl rfl (az (az (az ?_))));rw[dG];exact⟨o,_,_,.val,.val,rfl⟩
  |keep k=>
   refine cJ (fG rfl q rfl r) (ah (aI (by repeat array_get_dec) (zD ·) λ_=>?_));refine ah (aI (by repeat array_get_dec) (zD ·) λ_=>?_);refine ah (aI (by repeat array_get_dec) (λh=>?_) λh=>?_)
   .have y:0<k:=by have:=aaN h;omega
    by_cases j:d.2.2.1=[]/\d.2.2.2=[]
    .have n1:cop .ne (.str d.2.2.1) (.str [])=some false:=by rw[gn,j.1];rfl
     have n2:cop .ne (.str d.2.2.2) (.str [])=some false:=by rw[gn,j.2];rfl
     refine ah (aI (b:=false) (sD (aE rfl (by repeat array_get_dec) rfl) (aE rfl (by repeat array_get_dec) rfl)) (zD ·) λ_=>az ?_);refine ah (aR (by repeat array_get_dec) rfl rfl (az (az (az (az ?_)))));rw[dG];refine⟨o,some (.val (.str ff)),some (.val (.int k)),.val,.val,?_⟩;simp only[bT,LV y,LV j];rw[j.1,j.2];rfl
    .have L:aN (run F w (n+1)) (.orr (.cmp .ne (.v 3) (.c (.str []))) (.cmp .ne (.v 4) (.c (.str [])))) [some (.val (aY c)),some (.own (d.1.map Pt.v)),some (.val (.int d.2.1)),some (.val (.str d.2.2.1)),some (.val (.str d.2.2.2)),some (.val (.str ff)),some (.val (.int k))]=.ok true [some (.val (aY c)),some (.own (d.1.map Pt.v)),some (.val (.int d.2.1)),some (.val (.str d.2.2.1)),some (.val (.str d.2.2.2)),some (.val (.str ff)),some (.val (.int k))]:=by
      by_cases H:d.2.2.1=[]
      .have M:¬ d.2.2.2=[]:=λz=>j ⟨H,z⟩;have n1:cop .ne (.str d.2.2.1) (.str [])=some false:=by rw[gn,H];rfl
       have n2:cop .ne (.str d.2.2.2) (.str [])=some true:=by rw[gn,aav M];rfl
       exact sD (aE rfl (by repeat array_get_dec) rfl) (aE rfl (by repeat array_get_dec) rfl)
      .have n1:cop .ne (.str d.2.2.1) (.str [])=some true:=by rw[gn,aav H];rfl
       exact Ej (aE rfl (by repeat array_get_dec) rfl)
     refine ah (aI L (λ_=>?_) λh=>absurd h (by decide));refine ah (fc (by (repeat (first|array_get_dec|exact G _|exact ex _))) ?_);refine ah (aR (by repeat array_get_dec) rfl rfl ?_);refine ah (aR (by repeat array_get_dec) rfl rfl ?_);refine ah (aR (by repeat array_get_dec) rfl rfl (az ?_));refine ah (aR (by repeat array_get_dec) rfl rfl (az (az (az (az ?_)))));rw[dG];refine⟨o,some (.val (.str ff)),some (.val (.int k)),.val,.val,?_⟩;simp only[bT,LV y,aaj j];rw[ab1];rfl
   .have y:¬ 0<k:=by have:=aba h;omega
    refine az (az (az (az ?_)));rw[dG];refine⟨o,some (.val (.str ff)),some (.val (.int k)),.val,.val,?_⟩;simp only[bT,aaj y];rfl
 .subst g;simp at f;subst f;obtain⟨A,B,C⟩:=xY p fO;have e:bE p=dM (p.foldl bT fO):=rfl;rw[e];generalize p.foldl bT fO=d at *
  simp[fO]at A B C;have P:=lX d.2.1 d.2.2.1 d.2.2.2;have G:=λfr=>fF (fr:=fr) (qC (w:=w) (n:=n) hs d.2.1 d.2.2.1 d.2.2.2);have ex:=λfr=>ext d fr (by omega);have N:toT (.lst ((dM d).map Pt.v))=some (aY (dM d)):=by rw[AB];exact mH (bH (by simp[dM];omega))
  refine ah (fc (by (repeat (first|array_get_dec|exact G _|exact ex _))) ?_);exact ah (bS (B6 (au rfl) N) ⟨rfl,rfl⟩)
def lv(o:Option Sl)(l:List V):Prop:=o=some (.own l)\/o=some (.val (.lst l))
section
variable{o:Option Sl}{l:List V}{fr:Fr}{i:Nat}{s:Sl}
theorem lv.own:lv (some (.own l)) l:=.inl rfl
theorem lv.val:lv (some (.val (.lst l))) l:=.inr rfl
def Qt(h:lv o l):Eh true (some o)=some (.lst l):=by rcases h with rfl|rfl<;>simp
def Qu(h:lv o l):AG fr i s (some o)=some (fr.set i (some s)):=by rcases h with rfl|rfl<;>simp
end
def Qv{P:aS}{fr:Fr}{i:Nat}{k:Bool}{o:Option Sl}{l:List V}(hk:k=true)(e:fr[i]?=some o)(h:lv o l):ev P k (.v i) fr=.ok (.lst l) fr:=by
 subst hk;exact au (by rw[LC,e,Qt h])
def Qw{fr:Fr}{i:Nat}{s:Sl}{o:Option Sl}{l:List V}(e:fr[i]?=some o)(h:lv o l):put fr i s=some (fr.set i (some s)):=by rw[Ei,e,Qu h]
inductive Tq where
 |at (i:Nat)|sg (c:Nat)
deriving DecidableEq
noncomputable def Pt.asks:Pt->List (List Nat)
 |.keep n=>List.replicate n []
 |.drop s=>s.map λc=>[c]
 |.put _=>[]
noncomputable def asks(c:List Pt):List (List Nat):=c.flatMap Pt.asks
noncomputable def Pt.told(k:Nat):Pt->List Tq
 |.keep n=>(List.range n).map λj=>.at (k+j)
 |.drop _=>[]
 |.put s=>s.map .sg
noncomputable def told(k:Nat):List Pt->List Tq
 |[]=>[]
 |p :: c=>p.told k++told (k+p.asks.length) c
def eX(a b:List Pt):asks (a++b)=asks a++asks b:=by simp[asks]
def iE(a b:List Pt):∀k,told k (a++b)=told k a++told (k+(asks a).length) b:=by
 induction a with
 |nil=>intro k;simp[told,asks]
 |cons p a c=>
  intro k;simp only[aaS,told,c,aaO]
  congr 3
  simp[asks];omega
noncomputable def nD(c:List Pt):List (List Nat)×List Tq:=(asks c,told 0 c)
noncomputable def Pt.word:Pt->List Nat
 |.keep _=>ff
 |.put _=>o9
 |.drop _=>lJ
noncomputable def sF(a b:List Nat):Bool:=!(decide (a=b) || (decide (a=o9)&&decide (b=lJ)))
noncomputable def lY:List (List Nat)->Bool
 |a :: b :: r=>sF a b&&lY (b :: r)
 |_=>true
noncomputable def Qx(p:Pt):Bool:=p.n != 0
noncomputable def pg(c:List Pt):Bool:=lY (c.map Pt.word)&&c.all Qx
def fP(k:Nat)(g x:List Nat):asks (cE k g x)=List.replicate k []++g.map λc=>[c]:=by
  unfold cE;by_cases a:0<k<;>by_cases b:g=[]<;>by_cases d:x=[]<;>simp[a,b,d,asks,Pt.asks]
  all_goals (have:k=0:=by omega
             subst this;simp)
def je(k:Nat)(g x:List Nat)(j:Nat):told j (cE k g x)=(List.range k).map (λi=>Tq.at (j+i))++x.map Tq.sg:=by
  unfold cE;by_cases a:0<k<;>by_cases b:g=[]<;>by_cases c:x=[]<;>simp[a,b,c,told,Pt.told,Pt.asks]
  all_goals (have:k=0:=by omega
             subst this;simp)
def Ca(st:FS)(p:Pt):asks (dM (bT st p))=asks (dM st++[p])/\∀j,told j (dM (bT st p))=told j (dM st++[p]):=by
 obtain⟨ps,k,g,x⟩:=st;have c:∀a:List Pt,asks (a++[p])=asks a++p.asks:=λa=>by simp[asks]
 have b:∀(a:List Pt) j,told j (a++[p])=told j a++p.told (j+(asks a).length):=λa j=>by simp[iE,told]
 rw[c];cases p with
 |drop s=>
  refine⟨by simp[bT,dM,eX,fP,Pt.asks],λj=>?_⟩;rw[b];simp[bT,dM,iE,je,Pt.told]
 |put s=>
  refine⟨by simp[bT,dM,eX,fP,Pt.asks],λj=>?_⟩;rw[b];simp[bT,dM,iE,je,Pt.told]
 |keep m=>
  simp only[bT];split
  .split
   .rename_i h;obtain⟨rfl,rfl⟩:=h;refine⟨by simp[dM,eX,fP,Pt.asks],λj=>?_⟩;rw[b];simp[dM,eX,iE,je,fP,Pt.told,List.range_add,abY]
   .refine⟨by simp[dM,eX,fP,Pt.asks],λj=>?_⟩;rw[b];simp[dM,eX,iE,je,fP,Pt.told,abY]
  .rename_i h;have:m=0:=by omega
   subst this;refine⟨by simp[Pt.asks],λj=>?_⟩;rw[b];simp[Pt.told]
def sG(c:List Pt):∀st:FS,asks (dM (c.foldl bT st))=asks (dM st++c)/\∀j,told j (dM (c.foldl bT st))=told j (dM st++c):=by
 induction c with
 |nil=>intro st;simp
 |cons p c b=>
  intro st;obtain⟨d,f⟩:=b (bT st p);obtain⟨a,g⟩:=Ca st p;simp only[aaL];have e:dM st++p :: c=(dM st++[p])++c:=by simp
  refine⟨?_,λj=>?_⟩
  .rw[d,e,eX,eX _ c,a]
  .rw[f j,e,iE,iE _ c,g j,a]
def gF(c:List Pt):asks (bE c)=asks c:=by
 have:=(sG c fO).1;simpa[bE,fO,dM,cE]using this
def dF(c:List Pt)(j:Nat):told j (bE c)=told j c:=by
 have:=(sG c fO).2 j;simpa[bE,fO,dM,cE]using this
def nE(c:List Pt):nD (bE c)=nD c:=by simp[nD,gF,dF]
noncomputable def kps(c:List Pt):Nat:=tot (c.filter fN)
def nF(c:List Pt):(asks c).length=ay c:=by
 induction c with
 |nil=>rfl
 |cons p c a=>cases p<;>simp[asks,ay,tot,cL,Pt.asks,Pt.n]at a ⊢<;>omega
def nG(c:List Pt):∀j,(told j c).length=ir c:=by
 induction c with
 |nil=>intro j;rfl
 |cons p c a=>intro j;cases p<;>simp[told,ir,tot,ek,Pt.told,Pt.n,a]at a ⊢
def gS(n:Nat)(c:List Pt):ay (.keep n :: c)=n+ay c:=by simp[ay,tot,cL,Pt.n]
def iC(s:List Nat)(c:List Pt):ay (.drop s :: c)=s.length+ay c:=by simp[ay,tot,cL,Pt.n]
def gT(s:List Nat)(c:List Pt):ay (.put s :: c)=ay c:=by simp[ay,tot,cL,Pt.n]
def Cb(n:Nat)(c:List Pt):ir (.keep n :: c)=n+ir c:=by simp[ir,tot,ek,Pt.n]
def Cc(s:List Nat)(c:List Pt):ir (.drop s :: c)=ir c:=by simp[ir,tot,ek,Pt.n]
def Cd(s:List Nat)(c:List Pt):ir (.put s :: c)=s.length+ir c:=by simp[ir,tot,ek,Pt.n]
def Ja(n:Nat)(c:List Pt):cst (.keep n :: c)=cst c:=by simp[cst,tot,fN,Pt.n]
def Jb(s:List Nat)(c:List Pt):cst (.drop s :: c)=s.length+cst c:=by simp[cst,tot,fN,Pt.n]
def Jc(s:List Nat)(c:List Pt):cst (.put s :: c)=s.length+cst c:=by simp[cst,tot,fN,Pt.n]
def Jd(n:Nat)(c:List Pt):kps (.keep n :: c)=n+kps c:=by simp[kps,tot,abB,fN,Pt.n]
def Je(s:List Nat)(c:List Pt):kps (.drop s :: c)=kps c:=by simp[kps,tot,fN,Pt.n]
def Jf(s:List Nat)(c:List Pt):kps (.put s :: c)=kps c:=by simp[kps,tot,fN,Pt.n]
noncomputable def isAt:Tq->Bool
 |.at _=>true
 |_=>false
def Ep(c:List Pt):∀j,((told j c).filter isAt).length=kps c:=by
 induction c with
 |nil=>intro j;rfl
 |cons p c b=>
  intro j;have e:∀(m:Nat) (f:Nat->Nat),(((List.range m).map λi=>Tq.at (f i)).filter isAt).length=m:=λm f=>by
   rw[List.filter_eq_self.mpr]
   .simp
   .intro a d;obtain⟨i,_,rfl⟩:=List.mem_map.mp d;rfl
  have g:∀s:List Nat,((s.map Tq.sg).filter isAt).length=0:=λs=>by
   rw[List.filter_eq_nil_iff.mpr]
   .rfl
   .intro a d;obtain⟨i,_,rfl⟩:=List.mem_map.mp d;simp[isAt]
  cases p with
  |keep m=>simp only[told,Pt.told,acd,aam,e,b,kps,tot,fN,abB,aax,aai,List.sum_cons,Pt.n]
  |put s=>simp only[told,Pt.told,acd,aam,g,b,kps,fN,abB];simp
  |drop s=>simp only[told,Pt.told,acd,aam,b,kps,fN,abB];simp
def Er(c:List Pt):(cst c:Int)=ay c - kps c+ir c - kps c:=by
 induction c with
 |nil=>rfl
 |cons p c a=>cases p<;>simp only[Ja,Jb,Jc,gS,iC,gT,Cb,Cc,Cd,Jd,Je,Jf]<;>omega
def Et(c:List Pt):tot c+kps c=ay c+ir c:=by
 induction c with
 |nil=>rfl
 |cons p c a=>cases p<;>simp only[bB,Pt.n,gS,iC,gT,Cb,Cc,Cd,Jd,Je,Jf]<;>omega
def x6(c:List Pt):ay (bE c)=ay c:=by rw[<-nF,<-nF,gF]
def yc(c:List Pt):ir (bE c)=ir c:=by rw[<-nG _ 0,<-nG _ 0,dF]
def yd(c:List Pt):kps (bE c)=kps c:=by rw[<-Ep _ 0,<-Ep _ 0,dF]
def qX(c:List Pt):cst (bE c)=cst c:=by
 have a:=Er (bE c);have b:=Er c;rw[x6,yc,yd]at a;omega
def jn(c:List Pt):tot (bE c)=tot c:=by
 have a:=Et (bE c);have b:=Et c;rw[x6,yc,yd]at a;omega
theorem AL:∀(a:List (List Nat)) (b:List (List Nat)),lY (a++b)=true↔lY a=true/\lY b=true/\∀x∈a.getLast?,∀y∈b.head?,sF x y=true
 |[],b=>by simp[lY]
 |[x],[]=>by simp[lY]
 |[x],y :: b=>by simp[lY,and_comm]
 |x :: y :: a,b=>by
  have:=AL (y :: a) b;simp only[aaS]at this ⊢;simp only[lY,W2,this,List.getLast?_cons_cons];constructor
  .rintro⟨h1,h2,h3,h4⟩;exact⟨⟨h1,h2⟩,h3,h4⟩
  .rintro⟨⟨h1,h2⟩,h3,h4⟩;exact⟨h1,h2,h3,h4⟩
def zp(k:Nat)(g x:List Nat):pg (cE k g x)=true:=by
 unfold cE;by_cases a:0<k<;>by_cases b:g=[]<;>by_cases c:x=[]<;>simp[a,b,c,pg,Qx,lY,sF,Pt.word,Pt.n,ff,o9,lJ]
 all_goals omega
def ye(st:FS):Prop:=pg st.1=true/\(st.1≠[]->0<st.2.1)/\∀p∈st.1.getLast?,p.word≠ff
def LM{a b:List Pt}(ha:pg a=true)(hb:pg b=true)(h:∀p∈a.getLast?,∀q∈b.head?,sF p.word q.word=true):pg (a++b)=true:=by
 simp only[pg,W2]at ha hb ⊢;refine⟨?_,by rw[List.all_append,ha.2,hb.2];rfl⟩;rw[aao,AL];refine⟨ha.1,hb.1,λx c y d=>?_⟩;simp at c d;obtain⟨p,e,rfl⟩:=c;obtain⟨q,f,rfl⟩:=d;exact h p e q f
def yf{k:Nat}{g x:List Nat}(hk:0<k):(cE k g x).head?=some (.keep k):=by simp[cE,hk]
def LN{w:List Nat}(h:w≠ff)(hw:w=o9\/w=lJ):sF w ff=true:=by
 rcases hw with rfl|rfl<;>decide
def LO(p:Pt):p.word=ff\/p.word=o9\/p.word=lJ:=by cases p<;>simp[Pt.word]
def yg{st:FS}(h:ye st):pg (dM st)=true:=by
 refine LM h.1 (zp _ _ _) λp a q b=>?_;have c:st.1≠[]:=by intro z;rw[z]at a;simp at a
 rw[yf (h.2.1 c)]at b;simp at b;subst b;have d:=h.2.2 p a;exact LN d ((LO p).resolve_left d)
def yh{k:Nat}{g x:List Nat}(h:¬ (g=[]/\x=[])):∀p∈(cE k g x).getLast?,p.word≠ff:=by
 unfold cE;by_cases b:x=[]
 .have c:g≠[]:=λz=>h ⟨z,b⟩;intro p a;simp[c,b]at a;subst a;simp[Pt.word,lJ,ff]
 .intro p a;simp[b]at a;subst a;simp[Pt.word,o9,ff]
def Eu{st:FS}(h:ye st)(p:Pt):ye (bT st p):=by
 cases p with
 |drop s=>exact h
 |put s=>exact h
 |keep k=>
  simp only[bT];split
  .rename_i b;split
   .exact⟨h.1,λz=>by simp;omega,h.2.2⟩
   .rename_i Vk;refine⟨yg h,λ_=>b,λp a=>?_⟩;rw[acS]at a;cases z:(cE st.2.1 st.2.2.1 st.2.2.2).getLast? with
    |none=>
     exfalso;rw[List.getLast?_eq_none_iff]at z;unfold cE at z;by_cases c:st.2.2.2=[]<;>by_cases d:st.2.2.1=[]<;>simp[c,d]at z Vk
    |some q=>
     rw[z]at a;simp at a;subst a;exact yh Vk q z
  .exact h
def jq(c:List Pt):pg (bE c)=true:=by
 have:∀(c:List Pt) (a:FS),ye a->ye (c.foldl bT a):=λc=>by
  induction c with
  |nil=>exact λa h=>h
  |cons p c b=>exact λa h=>b _ (Eu h p)
 exact yg (this c fO ⟨rfl,λz=>absurd rfl z,λp d=>by simp[fO]at d⟩)
abbrev Bl:=List Nat×List Nat
abbrev BS:=List Bl×Bl
noncomputable def fh(st:BS):Pt->BS
 |.drop s=>(st.1,(st.2.1++s,st.2.2))
 |.put s=>(st.1,(st.2.1,st.2.2++s))
 |.keep 0=>st
 |.keep (n+1)=>(st.1++st.2 :: List.replicate n ([],[]),([],[]))
noncomputable def qD:BS:=([],([],[]))
noncomputable def blocks(c:List Pt):BS:=c.foldl fh qD
noncomputable def mK(st:List Pt×Nat)(b:Bl):List Pt×Nat:=if b.1=[]/\b.2=[]then (st.1,st.2+1)else (st.1++cE st.2 b.1 b.2,1)
noncomputable def pk(bs:List Bl):List Pt×Nat:=bs.foldl mK ([],0)
def Hq(n:Nat):∀st:List Pt×Nat,(List.replicate n (([],[]):Bl)).foldl mK st=(st.1,st.2+n):=by
 induction n with
 |zero=>intro st;simp
 |succ n a=>intro st;simp[aak,mK,a];omega
noncomputable def AM(st:BS):FS:=((pk st.1).1,(pk st.1).2,st.2.1,st.2.2)
def Hr(st:BS)(p:Pt):bT (AM st) p=AM (fh st p):=by
 obtain⟨bs,g,x⟩:=st;cases p with
 |drop s=>rfl
 |put s=>rfl
 |keep n=>
  cases n with
  |zero=>rfl
  |succ n=>
   have e:pk (bs++(g,x) :: List.replicate n ([],[]))=((mK (pk bs) (g,x)).1,(mK (pk bs) (g,x)).2+n):=by
    simp only[pk,abT,aaL,Hq]
   simp only[AM,fh,e,bT,Nat.succ_pos,aax,mK];by_cases h:g=[]/\x=[]
   .simp[h];omega
   .simp[h];omega
def Hs(c:List Pt):∀st:BS,c.foldl bT (AM st)=AM (c.foldl fh st):=by
 induction c with
 |nil=>intro st;rfl
 |cons p c a=>intro st;simp only[aaL,Hr,a]
def jB(c:List Pt):bE c=dM (AM (blocks c)):=by
 unfold bE blocks;rw[<-Hs];rfl
noncomputable def Ew(st:List (List Nat)×List Nat):List Nat->List (List Nat)×List Nat
 |[]=>(st.1++[st.2],[])
 |c :: _=>(st.1,st.2++[c])
noncomputable def spT(st:List (List Nat)×List Nat):Tq->List (List Nat)×List Nat
 |.at _=>(st.1++[st.2],[])
 |.sg c=>(st.1,st.2++[c])
def Ex(s:List Nat):∀st,(s.map λc=>[c]).foldl Ew st=(st.1,st.2++s):=by
 induction s with
 |nil=>intro st;simp
 |cons c s a=>intro st;simp[Ew,a]
def Ht(n:Nat):∀st,(List.replicate n []).foldl Ew st=if n=0 then st else (st.1++st.2 :: List.replicate (n - 1) [],[]):=by
 induction n with
 |zero=>intro st;rfl
 |succ n a=>
  intro st;simp only[aak,aaL,Ew,a];cases n with
  |zero=>simp
  |succ n=>simp[aak]
def Ey(s:List Nat):∀st,(s.map Tq.sg).foldl spT st=(st.1,st.2++s):=by
 induction s with
 |nil=>intro st;simp
 |cons c s a=>intro st;simp[spT,a]
def Hu(n:Nat):∀(k:Nat) st,((List.range n).map λj=>Tq.at (k+j)).foldl spT st=if n=0 then st else (st.1++st.2 :: List.replicate (n - 1) [],[]):=by
 induction n with
 |zero=>intro k st;rfl
 |succ n a=>
  intro k st;rw[abG,aao,abT,a];cases n with
  |zero=>simp[spT]
  |succ n=>
   simp[spT];rw[<-List.replicate_succ',aak]
def sH(c:List Pt):∀st:BS,(asks c).foldl Ew (st.1.map Prod.fst,st.2.1)=((c.foldl fh st).1.map Prod.fst,(c.foldl fh st).2.1):=by
 induction c with
 |nil=>intro st;rfl
 |cons p c a=>
  intro st;have e:asks (p :: c)=p.asks++asks c:=by simp[asks]
  rw[e,abT,aaL,<-a]
  congr 1
  cases p with
  |drop s=>simp[Pt.asks,Ex,fh]
  |put s=>simp[Pt.asks,fh]
  |keep n=>
   simp only[Pt.asks,Ht];cases n with
   |zero=>rfl
   |succ n=>simp[fh]
def sI(c:List Pt):∀(k:Nat) (st:BS),(told k c).foldl spT (st.1.map Prod.snd,st.2.2)=((c.foldl fh st).1.map Prod.snd,(c.foldl fh st).2.2):=by
 induction c with
 |nil=>intro k st;rfl
 |cons p c a=>
  intro k st;rw[told,abT,aaL,<-a (k+p.asks.length)]
  congr 1
  cases p with
  |put s=>simp[Pt.told,Ey,fh]
  |drop s=>simp[Pt.told,fh]
  |keep n=>
   simp only[Pt.told,Hu];cases n with
   |zero=>rfl
   |succ n=>simp[fh]
theorem AN{α β:Type}:∀{a b:List (α×β)},a.map Prod.fst=b.map Prod.fst->a.map Prod.snd=b.map Prod.snd->a=b
 |[],[],_,_=>rfl
 |[],_ :: _,h,_=>by simp at h
 |_ :: _,[],h,_=>by simp at h
 | (x,y) :: a,(x',y') :: b,h1,h2=>by
  simp at h1 h2;rw[h1.1,h2.1,AN h1.2 h2.2]
def pq{a b:List Pt}(h:nD a=nD b):blocks a=blocks b:=by
 have e:asks a=asks b:=aau Prod.fst h;have f:told 0 a=told 0 b:=aau Prod.snd h;have c:=sH a qD;have g:=sH b qD;have d:=sI a 0 qD;have i:=sI b 0 qD;rw[e,g]at c;rw[f,i]at d;have j:=aau Prod.fst c;have l:=aau Prod.snd c;have o:=aau Prod.fst d;have p:=aau Prod.snd d;unfold blocks;exact Prod.ext (AN j.symm o.symm) (Prod.ext l.symm p.symm)
def yi(a b:List Pt):bE a=bE b↔nD a=nD b:=by
 constructor
 .intro h;rw[<-nE a,<-nE b,h]
 .intro h;rw[jB,jB,pq h]
def lK(a:List Pt):bE (bE a)=bE a:=(yi _ _).mpr (nE a)
noncomputable def Pt.sw:Pt->Pt
 |.keep n=>.keep n
 |.put s=>.drop s
 |.drop s=>.put s
noncomputable def sw(c:List Pt):List Pt:=c.map Pt.sw
def uT(c:List Pt):∀st:BS,(sw c).foldl fh (st.1.map Prod.swap,st.2.swap)=((c.foldl fh st).1.map Prod.swap,(c.foldl fh st).2.swap):=by
 induction c with
 |nil=>intro st;rfl
 |cons p c a=>
  intro st;simp only[sw,aai,aaL]at a ⊢;rw[<-a]
  congr 1
  cases p with
  |put s=>rfl
  |drop s=>rfl
  |keep n=>cases n<;>simp[Pt.sw,fh]
def AO{a b:List Pt}(h:bE a=bE b):bE (sw a)=bE (sw b):=by
 have c:=pq ((yi a b).mp h);rw[jB,jB];have d:=uT a qD;have f:=uT b qD;have e:blocks (sw a)=blocks (sw b):=by
  unfold blocks at c ⊢;have z:((qD.1.map Prod.swap,qD.2.swap):BS)=qD:=rfl;rw[z]at d f;rw[d,f,c]
 rw[e]
noncomputable def lZ(c:List Pt):List Pt:=bE (sw c)
def Qy(c:List Pt):ay (sw c)=ir c:=by
 induction c with
 |nil=>rfl
 |cons p c a=>cases p<;>simp only[sw,aai,Pt.sw,gS,iC,gT,Cb,Cc,Cd]at a ⊢<;>omega
noncomputable def aZ:List Pt->List Nat->Bool
 |[],t=>t.isEmpty
 |.keep n :: c,t=>decide (n<=t.length)&&aZ c (t.drop n)
 |.drop s :: c,t=>s.isPrefixOf t&&aZ c (t.drop s.length)
 |.put _ :: c,t=>aZ c t
noncomputable def aC:List Pt->List Nat->List Nat
 |[],_=>[]
 |.keep n :: c,t=>t.take n++aC c (t.drop n)
 |.drop s :: c,t=>aC c (t.drop s.length)
 |.put s :: c,t=>s++aC c t
noncomputable def bF:List (List Nat)->List Nat->Bool
 |[],[]=>true
 |x :: a,c :: t=>(decide (x=[]) ||decide (x=[c]))&&bF a t
 |_,_=>false
def Ez(n:Nat)(a:List (List Nat)):∀t,bF (List.replicate n []++a) t=(decide (n<=t.length)&&bF a (t.drop n)):=by
 induction n with
 |zero=>intro t;simp
 |succ n b=>
  intro t;cases t with
  |nil=>simp[aak,bF]
  |cons c t=>simp[aak,bF,b]
def EA(s:List Nat)(a:List (List Nat)):∀t,bF ((s.map λc=>[c])++a) t=(s.isPrefixOf t&&bF a (t.drop s.length)):=by
 induction s with
 |nil=>intro t;simp
 |cons c s b=>
  intro t;cases t with
  |nil=>simp[bF]
  |cons d t=>
   simp only[aai,aaS,bF,b,List.isPrefixOf,aal,abp];by_cases h:c=d<;>simp[h]
def iu(c:List Pt):∀t,aZ c t=bF (asks c) t:=by
 induction c with
 |nil=>intro t;cases t<;>rfl
 |cons p c a=>
  intro t;have e:asks (p :: c)=p.asks++asks c:=by simp[asks]
  rw[e];cases p with
  |keep n=>simp[aZ,Pt.asks,Ez,a]
  |drop s=>simp[aZ,Pt.asks,EA,a]
  |put s=>simp[aZ,Pt.asks,a]
def qY(c:List Pt)(t:List Nat):aZ (bE c) t=aZ c t:=by rw[iu,iu,gF]
noncomputable def pick(t:List Nat):Tq->List Nat
 |.at i=>(t[i]?).toList
 |.sg c=>[c]
def EB(c:List Pt):∀(t:List Nat) (k:Nat),aC c (t.drop k)=(told k c).flatMap (pick t):=by
 induction c with
 |nil=>intro t k;rfl
 |cons p c a=>
  intro t k;rw[told,acX,<-a];cases p with
  |put s=>
   simp only[aC,Pt.told,Pt.asks,ab4,Nat.add_zero]
   congr 1
   induction s with
   |nil=>rfl
   |cons c s a=>simp[pick]at a ⊢;exact a
  |drop s=>simp[aC,Pt.told,Pt.asks,abx]
  |keep n=>
   simp only[aC,Pt.told,Pt.asks,acQ,abP]
   congr 1
   induction n generalizing k with
   |zero=>simp
   |succ n b=>
    rw[abG,aao,acX,<-b];rw[List.take_add_one];simp[pick]
def gG(c:List Pt)(t:List Nat):aC (bE c) t=aC c t:=by
 have a:=EB (bE c) t 0;have b:=EB c t 0;rw[dF,<-b]at a;simpa using a
def yj(c:List Pt):∀t,aZ c t=true->aZ (sw c) (aC c t)=true/\aC (sw c) (aC c t)=t:=by
 induction c with
 |nil=>intro t h;simp[aZ]at h;subst h;simp[sw,aZ,aC]
 |cons p c d=>
  intro t h;cases p with
  |keep n=>
   simp only[aZ,W2,aa4]at h;obtain⟨a,b⟩:=d _ h.2;have g:(t.take n).length=n:=by simp;omega
   simp only[sw,aai,Pt.sw,aC,aZ]at a b ⊢;have e:(t.take n++aC c (t.drop n)).drop n=aC c (t.drop n):=by rw[List.drop_append_of_le_length (by omega),aa9 (by omega)];rfl
   have f:(t.take n++aC c (t.drop n)).take n=t.take n:=by rw[List.take_append_of_le_length (by omega),List.take_take,Nat.min_self]
   rw[e,f,a,b];simp;omega
  |drop s=>
   simp only[aZ,W2]at h;obtain⟨a,b⟩:=d _ h.2;simp only[sw,aai,Pt.sw,aC,aZ]at a b ⊢;rw[b];refine⟨a,?_⟩;obtain⟨r,rfl⟩:=List.isPrefixOf_iff_prefix.mp h.1;simp
  |put s=>
   simp only[aZ]at h;obtain⟨a,b⟩:=d _ h;simp only[sw,aai,Pt.sw,aC,aZ]at a b ⊢;simp[a,b]
noncomputable def yk(dY:Nat):Fn:=⟨2,4,(.cons (.set 2 (.c (.int 0))) (.cons (.for (.one 3) (.seq (.v 0)) (.cons (.iff (.an (.cmp .eq (.ix (.v 3) (.c (.int 0))) (.c (.str [100,114,111,112]))) (.cmp .ne (.sl (.v 1) (.yes (.v 2)) (.yes (.bin .add (.v 2) (.cl dY (.cons (.v 3) .nil))))) (.ix (.v 3) (.c (.int 1))))) (.cons (.ret (.c (.bl false))) .nil) .nil) (.cons (.iff (.cmp .ne (.ix (.v 3) (.c (.int 0))) (.c (.str [112,117,116]))) (.cons (.set 2 (.bin .add (.v 2) (.cl dY (.cons (.v 3) .nil)))) .nil) .nil) .nil))) (.cons (.ret (.cmp .eq (.v 2) (.bi .len (.cons (.v 1) .nil)))) .nil)))⟩
noncomputable def EC(Qz:Nat):Fn:=⟨2,6,(.cons (.iff (.nt (.cl Qz (.cons (.v 0) (.cons (.v 1) .nil)))) (.cons (.gp 0) .nil) .nil) (.cons (.set 2 (.lst .nil)) (.cons (.set 3 (.c (.int 0))) (.cons (.for (.many [4,5]) (.seq (.v 0)) (.cons (.iff (.cmp .eq (.v 4) (.c (.str [112,117,116]))) (.cons (.exp (.me .append (.v 2) (.cons (.v 5) .nil))) .nil) (.cons (.iff (.cmp .eq (.v 4) (.c (.str [100,114,111,112]))) (.cons (.set 3 (.bin .add (.v 3) (.bi .len (.cons (.v 5) .nil)))) .nil) (.cons (.exp (.me .append (.v 2) (.cons (.sl (.v 1) (.yes (.v 3)) (.yes (.bin .add (.v 3) (.v 5)))) .nil))) (.cons (.set 3 (.bin .add (.v 3) (.v 5))) .nil))) .nil)) .nil)) (.cons (.ret (.me .join (.c (.str [])) (.cons (.v 2) .nil))) .nil)))))⟩
noncomputable def lM(pA:Nat):Fn:=⟨1,1,(.cons (.ret (.cl pA (.cons (.tup (.cons (.tup (.cons (.c (.str [107,101,101,112])) (.cons (.v 0) .nil))) .nil)) .nil))) .nil)⟩
noncomputable def QA:Fn:=⟨2,6,(.cons (.set 2 (.c (.int 0))) (.cons (.set 3 (.c (.str []))) (.cons (.for (.many [4,5]) (.seq (.v 0)) (.cons (.iff (.cmp .eq (.v 4) (.c (.str [112,117,116]))) (.cons (.set 3 (.bin .add (.v 3) (.v 5))) .nil) (.cons (.iff (.cmp .eq (.v 4) (.c (.str [100,114,111,112]))) (.cons (.iff (.cmp .ne (.sl (.v 1) (.yes (.v 2)) (.yes (.bin .add (.v 2) (.bi .len (.cons (.v 5) .nil))))) (.v 5)) (.cons (.ret (.c (.aD))) .nil) .nil) (.cons (.set 2 (.bin .add (.v 2) (.bi .len (.cons (.v 5) .nil)))) .nil)) (.cons (.set 3 (.bin .add (.v 3) (.sl (.v 1) (.yes (.v 2)) (.yes (.bin .add (.v 2) (.v 5)))))) (.cons (.set 2 (.bin .add (.v 2) (.v 5))) .nil))) .nil)) .nil)) (.cons (.ret (.fW (.cmp .eq (.v 2) (.bi .len (.cons (.v 1) .nil))) (.v 3) (.c (.aD)))) .nil))))⟩
def jJ{α:Type}(l:List α)(p k:Nat):cut l (some (p:Int)) (some ((p:Int)+k))=(l.drop p).take k:=by
 have a:¬ (p:Int)<0:=by omega
 have b:¬ (p:Int)+k<0:=by omega
 have c:((p:Int)+k).toNat=p+k:=by omega
 simp only[cut,bg,a,b,aaZ,c,abU];by_cases d:p<=l.length
 .rw[ab2 d];by_cases e:p+k<=l.length
  .rw[ab2 e];congr 1;omega
  .rw[acr (by omega),aaM (by simp),aaM (by simp;omega)]
 .have f:min p l.length=l.length:=by omega
  rw[f,aa9 (aae _),aa9 (by omega)];simp
def pre_take{s t:List Nat}:s.isPrefixOf t=decide (t.take s.length=s):=by
 cases h:s.isPrefixOf t with
 |true=>
  obtain⟨r,rfl⟩:=List.isPrefixOf_iff_prefix.mp h;simp
 |false=>
  symm
  rw[acy];intro e;have:s.isPrefixOf t=true:=List.isPrefixOf_iff_prefix.mpr (by have z:=List.take_prefix s.length t;rw[e]at z;exact z);rw[h]at this;cases this
def gU(a b:List Pt):ay (a++b)=ay a+ay b:=by simp[ay,tot]
def gW{c:List Pt}:∀{t:List Nat},aZ c t=true->t.length=ay c:=by
 induction c with
 |nil=>intro t h;simp[aZ]at h;subst h;rfl
 |cons p c a=>
  intro t h;cases p with
  |keep n=>simp only[aZ,W2,aa4]at h;have:=a h.2;rw[gS];simp at this;omega
  |drop s=>
   simp only[aZ,W2]at h;have b:=a h.2;obtain⟨r,rfl⟩:=List.isPrefixOf_iff_prefix.mp h.1;rw[iC];simp at b ⊢;omega
  |put s=>rw[gT];exact a h
def kL(c:List Pt):∀t,(aC c t).length<=t.length+tot c:=by
 induction c with
 |nil=>intro t;simp[aC]
 |cons p c a=>
  intro t;rw[bB];cases p with
  |keep n=>have:=a (t.drop n);simp[aC,Pt.n]at this ⊢;omega
  |drop s=>have:=a (t.drop s.length);simp[aC,Pt.n]at this ⊢;omega
  |put s=>have:=a t;simp[aC,Pt.n]at this ⊢;omega
section
variable{F:List Fn}{w n aK iw cP bX i:Nat}
def Hv(c:List Pt)(t:List Nat)(q:Nat)(p:Pt)(l:List Pt)(h:aZ c t=(decide (q<=t.length)&&aZ (p :: l) (t.drop q))) :
  (ek p=true->(∃s,p=.drop s/\(if (t.drop q).take s.length=s then aZ c t=(decide (q+s.length<=t.length)&&aZ l (t.drop (q+s.length)))else aZ c t=false)))/\
  (ek p=false->aZ c t=(decide (q+ay [p]<=t.length)&&aZ l (t.drop (q+ay [p])))):=by
 cases p with
 |drop s=>
  refine⟨λ_=>⟨s,rfl,?_⟩,λz=>by simp[ek]at z⟩;simp only[aZ,pre_take,abP]at h;split
  .rename_i d;rw[h];simp only[d,decide_true,Bool.true_and];have f:=aau List.length d;simp at f;by_cases b:q<=t.length
   .by_cases a:q+s.length<=t.length
    .simp[b,a]
    .omega
   .have:¬ q+s.length<=t.length:=by omega
    simp[b,this]
  .rename_i d;rw[h];simp[d]
 |keep k=>
  refine⟨λz=>by simp[ek]at z,λ_=>?_⟩;have e:ay [.keep k]=k:=by rw[gS];rfl
  rw[h,e];simp only[aZ,abP,abZ];by_cases b:q<=t.length
  .by_cases a:q+k<=t.length
   .have:k<=t.length - q:=by omega
    simp[b,a,this]
   .have:¬ k<=t.length - q:=by omega
    simp[a,this]
  .have:¬ q+k<=t.length:=by omega
   simp[b,this]
 |put s=>
  refine⟨λz=>by simp[ek]at z,λ_=>?_⟩;have e:ay [.put s]=0:=by rw[gT];rfl
  rw[h,e];simp[aZ]
def Hw(hs:F[aK]?=some fz)(hf:F[i]?=some (yk aK))(c:List Pt)(t:List Nat)(h1:tot c<=10000)(h2:t.length<=10000):run F w (n+2) i [.val (aY c),.val (.str t)]=some (.bl (aZ c t),[]):=by
 refine bZ hf rfl ?_;refine ah (aR (by repeat array_get_dec) rfl rfl ?_);refine ah (gQ (vs:=c.map Pt.v) (cO (cT rfl) rfl) ?_);refine ez (e:=Pt.v) (λp l fr=>p++l=c/\aZ c t=(decide (ay p<=t.length)&&aZ l (t.drop (ay p)))/\∃a,vo a/\fr=[some (.val (aY c)),some (.val (.str t)),some (.val (.int (ay p))),a]) (λp x l fr ⟨d,f,a,q,o⟩=>?_) (λp fr ⟨d,f,a,q,o⟩=>?_) c [] _ ⟨rfl,by simp[ay,tot],none,.none,rfl⟩
 .subst o;have J:tot p+x.n+tot l=tot c:=by rw[<-d,ee,bB];omega
  have sz:=λfr=>fU (fr:=fr) (jm (w:=w) (n:=n) hs x (by omega));obtain⟨r,g⟩:=Hv c t (ay p) x l f;have C:(p++[x])++l=c:=by simpa using d
  have j:ay (p++[x])=ay p+ay [x]:=gU p [x];have A:((ay (p++[x]):Nat):Int)=(ay p:Int)+(ay [x]:Nat):=by rw[j];simp
  cases x with
  |drop s=>
   obtain⟨K,e,r⟩:=r rfl;cases e;have y:ay [.drop s]=s.length:=by rw[iC];rfl
   rw[y]at j A;have L:fX (.str t) (some (ay p:Int)) (some ((ay p:Int)+((Pt.drop s).n:Nat)))=some (.str ((t.drop (ay p)).take s.length)):=by rw[gP];exact aau (λz=>some (V.str z)) (jJ t (ay p) s.length)
   by_cases B:(t.drop (ay p)).take s.length=s
   .rw[LV B]at r;have G:cop .ne (.str ((t.drop (ay p)).take s.length)) (.str s)=some false:=by rw[gn,aaV B];rfl
    refine cJ (bind1 rfl q) (ah (aI (b:=false) (jI (b2:=false) (aE rfl (by repeat array_get_dec) rfl) (aE rfl (by (repeat (first|array_get_dec|exact sz _))) rfl)) (zD ·) λ_=>az ?_));refine ah (aI (by repeat array_get_dec) (λ_=>?_) λh=>absurd h (by decide));refine ah (aR (by (repeat (first|array_get_dec|exact sz _))) rfl rfl (az (az ?_)));rw[dG];exact⟨C,by rw[j];exact r,some (.val (Pt.drop s).v),.val,by rw[A];rfl⟩
   .rw[aaj B]at r;have G:cop .ne (.str ((t.drop (ay p)).take s.length)) (.str s)=some true:=by rw[gn,aav B];rfl
    refine cJ (bind1 rfl q) (ah (aI (b:=true) (jI (b2:=true) (aE rfl (by repeat array_get_dec) rfl) (aE rfl (by (repeat (first|array_get_dec|exact sz _))) rfl)) (λ_=>?_) λh=>absurd h (by decide)));refine ah (bS (by repeat array_get_dec) ?_);show nx _ _ _ _ _ _;rw[r];exact⟨rfl,rfl⟩
  |keep k=>
   have g:=g rfl;have y:ay [.keep k]=k:=by rw[gS];rfl
   rw[y]at g j A;refine cJ (bind1 rfl q) (ah (aI (b:=false) (xV (aE rfl (by repeat array_get_dec) rfl)) (zD ·) λ_=>az ?_));refine ah (aI (by repeat array_get_dec) (λ_=>?_) λh=>absurd h (by decide));refine ah (aR (by (repeat (first|array_get_dec|exact sz _))) rfl rfl (az (az ?_)));rw[dG];exact⟨C,by rw[j];exact g,some (.val (Pt.keep k).v),.val,by rw[A];rfl⟩
  |put s=>
   have g:=g rfl;have y:ay [.put s]=0:=by rw[gT];rfl
   rw[y]at g j;refine cJ (bind1 rfl q) (ah (aI (b:=false) (xV (aE rfl (by repeat array_get_dec) rfl)) (zD ·) λ_=>az ?_));refine ah (aI (by repeat array_get_dec) (zD ·) λ_=>az (az ?_));rw[dG];exact⟨C,by rw[j];exact g,some (.val (Pt.put s).v),.val,by rw[j];rfl⟩
 .subst o;simp at d;subst d;have e:decide ((ay p:Int)=(t.length:Nat))=aZ p t:=by
   rw[f];simp only[aZ];by_cases H:ay p=t.length
   .have:(ay p:Int)=t.length:=by omega
    simp[this,H]
   .have:¬ (ay p:Int)=t.length:=by omega
    simp[this];intro h;omega
  have M:cY .len [.str t]=some (.int (t.length:Nat)):=abC (by omega);have N:cop .eq (.int (ay p)) (.int (t.length:Nat))=some (aZ p t):=by rw[tV,e]
  have I:fT [some (.val (aY p)),some (.val (.str t)),some (.val (.int (ay p))),a]=[some (.val (aY p)),some (.val (.str t)),some (.val (.int (ay p))),a]:=by
   show _ :: _ :: _ :: [a.map Sl.eE]=_;rw[dh q];rfl
  refine ah (bS (v:=.bl (aZ p t)) (af:=[some (.val (aY p)),some (.val (.str t)),some (.val (.int (ay p))),a]) ?_ ⟨rfl,rfl⟩);rw[I];repeat array_get_dec
def yl(hs:F[aK]?=some fz)(hf:F[iw]?=some (yk aK))(hd:F[i]?=some (EC iw))(c:List Pt)(t:List Nat)(h1:tot c<=10000)(h2:t.length<=10000)(h3:c.length<=10000)(h:aZ c t=true):run F w (n+3) i [.val (aY c),.val (.str t)]=some (.str (aC c t),[]):=by
 refine bZ hd rfl ?_;have B:=λfr=>call2 (fr:=fr) (Hw (w:=w) (n:=n) hs hf c t h1 h2);rw[h]at B;refine ah (aI (b:=false) (IY (aE (b:=true) rfl (by (repeat (first|array_get_dec|exact B _))) rfl)) (zD ·) λ_=>az ?_);refine ah (gz (l:=[]) (by repeat array_get_dec) rfl rfl ?_);refine ah (aR (by repeat array_get_dec) rfl rfl ?_);refine ah (gQ (vs:=c.map Pt.v) (cO (cT rfl) rfl) ?_);refine ez (e:=Pt.v) (λp l fr=>p++l=c/\∃ps a b,vo a/\vo b/\ps.length<=p.length/\ps.flatten++aC l (t.drop (ay p))=aC c t/\fr=[some (.val (aY c)),some (.val (.str t)),some (.own (ps.map V.str)),some (.val (.int (ay p))),a,b]) (λp x l fr ⟨d,ps,a,b,j,o,H,hd,g⟩=>?_) (λp fr ⟨d,ps,a,b,j,o,H,hd,g⟩=>?_) c [] _ ⟨rfl,[],none,none,.none,.none,by simp,by simp[ay,tot],rfl⟩
 .subst g;have A:(p++[x])++l=c:=by simpa using d
  have f:ay (p++[x])=ay p+ay [x]:=gU p [x];have y:((ay (p++[x]):Nat):Int)=(ay p:Int)+(ay [x]:Nat):=by rw[f];simp
  have I:tot p+x.n+tot l=tot c:=by rw[<-d,ee,bB];omega
  have C:p.length+l.length+1=c.length:=by rw[<-d];simp;omega
  have G:∀(fr:Fr) (z:List Nat),iN .append 2 [.str z] fr (some (some (.own (ps.map V.str))))=.ok .aD (fr.set 2 (some (.own ((ps++[z]).map V.str)))):=λfr z=>by
   rw[aao];exact qa (by simp;omega)
  cases x with
  |put s=>
   have q:ay [.put s]=0:=by rw[gT];rfl
   rw[q]at f;refine cJ (fG rfl j rfl o) (ah (aI (by repeat array_get_dec) (λ_=>?_) λh=>absurd h (by decide)));refine ah (fc (by (repeat (first|array_get_dec|exact G _ _))) (az (az ?_)));rw[dG];exact⟨A,ps++[s],some (.val (.str o9)),some (.val (.str s)),.val,.val,by simp;omega,by rw[f];simpa[aC]using hd,by rw[f];rfl⟩
  |drop s=>
   have q:ay [.drop s]=s.length:=by rw[iC];rfl
   rw[q]at f y;have Zk:s.length<=tot c:=by simp only[Pt.n]at I;omega
   have L:cY .len [.str s]=some (.int (s.length:Nat)):=abC (by omega);refine cJ (fG rfl j rfl o) (ah (aI (by repeat array_get_dec) (zD ·) λ_=>?_));refine ah (aI (by repeat array_get_dec) (λ_=>?_) λh=>absurd h (by decide));refine ah (aR (by repeat array_get_dec) rfl rfl (az (az (az ?_))));rw[dG];exact⟨A,ps,some (.val (.str lJ)),some (.val (.str s)),.val,.val,by simp;omega,by rw[f];simpa[aC]using hd,by rw[y];rfl⟩
  |keep k=>
   have q:ay [.keep k]=k:=by rw[gS];rfl
   rw[q]at f y;have M:fX (.str t) (some (ay p:Int)) (some ((ay p:Int)+(k:Nat)))=some (.str ((t.drop (ay p)).take k)):=by rw[gP,jJ]
   refine cJ (fG rfl j rfl o) (ah (aI (by repeat array_get_dec) (zD ·) λ_=>?_));refine ah (aI (by repeat array_get_dec) (zD ·) λ_=>?_);refine ah (fc (by (repeat (first|array_get_dec|exact G _ _))) ?_);refine ah (aR (by repeat array_get_dec) rfl rfl (az (az (az ?_))));rw[dG];exact⟨A,ps++[(t.drop (ay p)).take k],some (.val (.str ff)),some (.val (.int k)),.val,.val,by simp;omega,by rw[f];simpa[aC]using hd,by rw[y];rfl⟩
 .subst g;simp at d;subst d;have r:ps.flatten=aC p t:=by simpa[aC]using hd
  have N:=kL p t;have J:=IW (l:=ps) (by rw[r];omega);rw[r]at J;have K:fT [some (.val (aY p)),some (.val (.str t)),some (.own (ps.map V.str)),some (.val (.int (ay p))),a,b]=[some (.val (aY p)),some (.val (.str t)),some (.val (.lst (ps.map V.str))),some (.val (.int (ay p))),a,b]:=by
   show _ :: _ :: _ :: _ :: a.map Sl.eE :: [b.map Sl.eE]=_;rw[dh j,dh o];rfl
  refine ah (bS (v:=.str (aC p t)) (af:=[some (.val (aY p)),some (.val (.str t)),some (.val (.lst (ps.map V.str))),some (.val (.int (ay p))),a,b]) ?_ ⟨rfl,rfl⟩);rw[K];repeat array_get_dec
def zq(hst:F[bX]?=some gE)(hf:F[cP]?=some (mJ bX))(hu:F[i]?=some (lM cP))(m:Nat)(h:m<=10000):run F w (n+3) i [.val (.int m)]=some (aY (bE [.keep m]),[]):=
 bZ hu rfl (ah (bS (cz (aP rfl (ef (aB (ef (aB (aX rfl) (aB (au rfl) aG)) gO) aG) nq) bz) (fU (nC hst hf [.keep m] (Nat.succ_le_of_lt (Nat.zero_lt_succ _)) h))) ⟨rfl,rfl⟩))
end
end Pv
namespace Pv
open Ev (rep)
def ED(ns:List Int)(at_:Int)(s:List Nat)(k:Nat):tot (j4 ns at_ s k)<=3:=by
 have d:=kK ns (at_+4*k+2) (many:=2) (by decide);have e:=kJ ns (at_+4*k+2) (many:=2) (by decide);unfold j4;rw[ee];have a:tot (if dg ns (at_+4*k) 4=0 then [Pt.put (rep (1+dg ns (at_+4*k+2) 2).toNat [[97,98,122].getD (dg ns (at_+4*k+1) 3).toNat 0])]else [])<=2:=by
  split
  .simp[tot,Pt.n,rep];omega
  .simp[tot]
 cases s[k]? with
 |none=>simp[tot]at a ⊢;omega
 |some c=>
  have b:tot [if 0<dg ns (at_+4*k+3) 3 then Pt.keep 1 else Pt.drop [c]]<=1:=by split<;>simp[tot,Pt.n]
  simp only at b ⊢;omega
theorem uU(ns:List Int)(at_:Int)(s:List Nat):∀k,tot (fV ns at_ s k)<=3*k
 |0=>by simp[fV,tot]
 |k+1=>by
  have a:=ED ns at_ s k;have b:=uU ns at_ s k;rw[j5,ee];omega
theorem qZ:∀{a b:List (List Nat)}{t u:List Nat},bF a t=true->bF b u=true->bF (a++b) (t++u)=true
 |[],_,[],_,_,hb=>hb
 |x :: a,b,c :: t,u,ha,hb=>by
  simp only[bF,W2]at ha;simp only[aaS,bF,W2];exact⟨ha.1,qZ ha.2 hb⟩
 |[],_,_ :: _,_,ha,_=>by simp[bF]at ha
 |_ :: _,_,[],_,ha,_=>by simp[bF]at ha
def LP(ns:List Int)(at_:Int)(s:List Nat)(k:Nat):bF (asks (j4 ns at_ s k)) (s[k]?).toList=true:=by
 unfold j4;rw[eX];have a:asks (if dg ns (at_+4*k) 4=0 then [Pt.put (rep (1+dg ns (at_+4*k+2) 2).toNat [[97,98,122].getD (dg ns (at_+4*k+1) 3).toNat 0])]else [])=[]:=by
  split<;>simp[asks,Pt.asks]
 rw[a];cases s[k]? with
 |none=>simp[asks,bF]
 |some c=>simp only;split<;>simp[asks,Pt.asks,bF]
theorem EE(ns:List Int)(at_:Int)(s:List Nat):∀k,bF (asks (fV ns at_ s k)) (s.take k)=true
 |0=>by simp[fV,asks,bF]
 |k+1=>by
  rw[j5,eX,List.take_add_one];exact qZ (EE ns at_ s k) (LP ns at_ s k)
def AQ(ns:List Int)(at_:Int)(s:List Nat):aZ (chg ns at_ s) s=true:=by
 have:=EE ns at_ s (s.length+1);rw[aaM (by omega)]at this;rw[iu];exact this
end Pv
namespace Pv
inductive At where
 |k|d (c:Nat)|p (c:Nat)
noncomputable def Pt.bf:Pt->List At
 |.keep n=>List.replicate n .k
 |.drop s=>s.map .d
 |.put s=>s.map .p
noncomputable def bf(c:List Pt):List At:=c.flatMap Pt.bf
def kg(a b:List Pt):bf (a++b)=bf a++bf b:=by simp[bf]
def dN(p:Pt)(c:List Pt):bf (p :: c)=p.bf++bf c:=by simp[bf]
def ym(p:Pt):p.bf.length=p.n:=by cases p<;>simp[Pt.bf,Pt.n]
def kh(c:List Pt):(bf c).length=tot c:=by
 induction c with
 |nil=>rfl
 |cons p c a=>rw[dN,aam,ym,a,bB]
noncomputable def tA:Nat->List At->List Tq
 |_,[]=>[]
 |i,.k :: a=>.at i :: tA (i+1) a
 |i,.d _ :: a=>tA (i+1) a
 |i,.p c :: a=>.sg c :: tA i a
noncomputable def aA:List At->List (List Nat)
 |[]=>[]
 |.k :: a=>[] :: aA a
 |.d c :: a=>[c] :: aA a
 |.p _ :: a=>aA a
noncomputable def dA:List At->List Nat->List Nat
 |[],_=>[]
 |.k :: a,t=>t.take 1++dA a (t.drop 1)
 |.d _ :: a,t=>dA a (t.drop 1)
 |.p c :: a,t=>c :: dA a t
noncomputable def qE:At->At
 |.k=>.k
 |.d c=>.p c
 |.p c=>.d c
noncomputable def cA:List At->Nat
 |[]=>0
 |.k :: a=>cA a
 |_ :: a=>cA a+1
theorem sJ:∀a b:List At,aA (a++b)=aA a++aA b
 |[],_=>rfl
 |.k :: a,b=>by simp[aA,sJ a b]
 |.d c :: a,b=>by simp[aA,sJ a b]
 |.p c :: a,b=>by simp[aA,sJ a b]
theorem sL:∀(a b:List At) (i:Nat),tA i (a++b)=tA i a++tA (i+(aA a).length) b
 |[],_,_=>rfl
 |.k :: a,b,i=>by simp[tA,aA,sL a b,abY,abx 1]
 |.d c :: a,b,i=>by simp[tA,aA,sL a b,abY,abx 1]
 |.p c :: a,b,i=>by simp[tA,aA,sL a b]
theorem sM:∀a b:List At,cA (a++b)=cA a+cA b
 |[],b=>by simp[cA]
 |.k :: a,b=>by simp[cA,sM a b]
 |.d c :: a,b=>by simp[cA,sM a b];omega
 |.p c :: a,b=>by simp[cA,sM a b];omega
def Jg(p:Pt):aA p.bf=p.asks:=by
 cases p with
 |keep n=>simp only[Pt.bf,Pt.asks];induction n<;>simp_all [aak,aA]
 |drop s=>simp only[Pt.bf,Pt.asks];induction s<;>simp_all [aA]
 |put s=>simp only[Pt.bf,Pt.asks];induction s<;>simp_all [aA]
def Uh(p:Pt):∀i,tA i p.bf=p.told i:=by
 cases p with
 |keep n=>
  simp only[Pt.bf,Pt.told];induction n with
  |zero=>intro i;rfl
  |succ n a=>intro i;simp only[aak,tA,a,acG,aai,ab0];simp[Function.comp_def,abY,abx 1]
 |drop s=>intro i;simp only[Pt.bf,Pt.told];induction s generalizing i<;>simp_all [tA]
 |put s=>intro i;simp only[Pt.bf,Pt.told];induction s generalizing i<;>simp_all [tA]
def Ui(p:Pt):cA p.bf=cst [p]:=by
 cases p with
 |keep n=>simp only[Pt.bf];rw[Ja];induction n<;>simp_all [aak,cA,cst,tot]
 |drop s=>simp only[Pt.bf];rw[Jb];induction s<;>simp_all [cA,cst,tot]
 |put s=>simp only[Pt.bf];rw[Jc];induction s<;>simp_all [cA,cst,tot]
def iF(c:List Pt):asks c=aA (bf c):=by
 induction c with
 |nil=>rfl
 |cons p c a=>rw[dN,sJ,Jg,<-a];simp[asks]
def fD(c:List Pt):∀i,told i c=tA i (bf c):=by
 induction c with
 |nil=>intro i;rfl
 |cons p c a=>intro i;rw[dN,sL,Uh,Jg,<-a,told]
def qe(c:List Pt):cst c=cA (bf c):=by
 induction c with
 |nil=>rfl
 |cons p c a=>
  rw[dN,sM,Ui,<-a];simp[cst,tot];cases p<;>simp[abB,fN]
def yo(c:List Pt):bf (sw c)=(bf c).map qE:=by
 induction c with
 |nil=>rfl
 |cons p c a=>
  have:bf (sw (p :: c))=p.sw.bf++bf (sw c):=by simp[bf,sw]
  rw[this,a,dN,aao]
  congr 1
  cases p<;>simp[Pt.sw,Pt.bf,qE,Function.comp_def]
def gH:∀(c:List Pt) (t:List Nat),aC c t=dA (bf c) t:=by
 have k:∀(n:Nat) (a:List At) (t:List Nat),dA (List.replicate n .k++a) t=t.take n++dA a (t.drop n):=λn=>by
  induction n with
  |zero=>intro a t;simp
  |succ n b=>
   intro a t;simp only[aak,aaS,dA,b,abP];cases t with
   |nil=>simp
   |cons c t=>simp[abx 1]
 have d:∀(s:List Nat) (a:List At) (t:List Nat),dA (s.map .d++a) t=dA a (t.drop s.length):=λs=>by
  induction s with
  |nil=>intro a t;simp
  |cons c s b=>intro a t;simp[dA,b,abx 1]
 have p:∀(s:List Nat) (a:List At) (t:List Nat),dA (s.map .p++a) t=s++dA a t:=λs=>by
  induction s with
  |nil=>intro a t;simp
  |cons c s b=>intro a t;simp[dA,b]
 intro c;induction c with
 |nil=>intro t;rfl
 |cons q c b=>
  intro t;rw[dN];cases q with
  |keep n=>simp only[Pt.bf,k,aC,b]
  |drop s=>simp only[Pt.bf,d,aC,b]
  |put s=>simp only[Pt.bf,p,aC,b]
noncomputable def EF:List At->Bool
 |.d _ :: _=>false
 |_=>true
inductive Th:List At->List At->List At->Prop
 |nil:Th [] [] []
 |d {a b r c}:Th a b r->Th (.d c :: a) b (.d c :: r)
 |p {a b r c}:EF a=true->Th a b r->Th a (.p c :: b) (.p c :: r)
 |kk {a b r}:Th a b r->Th (.k :: a) (.k :: b) (.k :: r)
 |kd {a b r c}:Th a b r->Th (.k :: a) (.d c :: b) (.d c :: r)
 |pk {a b r c}:Th a b r->Th (.p c :: a) (.k :: b) (.p c :: r)
 |pd {a b r c}:Th a b r->Th (.p c :: a) (.d c :: b) r
noncomputable def sub(L:List Tq):Tq->Tq
 |.at j=>L.getD j (.sg 0)
 |.sg c=>.sg c
def sN{L M:List Tq}{q:Tq}{j:Nat}(h:L.length=j):sub (L++q :: M) (.at j)=q:=by
 subst h;simp[sub]
def Th.told{a b r:List At}(h:Th a b r):∀(i j:Nat) (L:List Tq),L.length=j->tA i r=(tA j b).map (sub (L++tA i a)):=by
 induction h with
 |nil=>intro i j L e;rfl
 |d h f=>intro i j L e;exact f (i+1) j L e
 |p _ h f=>intro i j L e;simp only[tA,aai];rw[f i j L e];rfl
 |kk h f=>
  intro i j L e;simp only[tA,aai];rw[f (i+1) (j+1) (L++[.at i]) (by simp[e]),sN e];simp
 |kd h f=>
  intro i j L e;simp only[tA];rw[f (i+1) (j+1) (L++[.at i]) (by simp[e])];simp
 |@pk _ _ _ c h f=>
  intro i j L e;simp only[tA,aai];rw[f i (j+1) (L++[.sg c]) (by simp[e]),sN e];simp
 |@pd _ _ _ c h f=>
  intro i j L e;simp only[tA];rw[f i (j+1) (L++[.sg c]) (by simp[e])];simp
def Th.back{a b r:List At}(h:Th a b r):∀(i j:Nat) (L:List Tq),L.length=j->tA i (r.map qE)=(tA j (a.map qE)).map (sub (L++tA i (b.map qE))):=by
 induction h with
 |nil=>intro i j L e;rfl
 |d h f=>intro i j L e;simp only[aai,qE,tA];rw[f i j L e];rfl
 |p _ h f=>intro i j L e;exact f (i+1) j L e
 |kk h f=>
  intro i j L e;simp only[aai,qE,tA];rw[f (i+1) (j+1) (L++[.at i]) (by simp[e]),sN e];simp
 |@kd _ _ _ c h f=>
  intro i j L e;simp only[aai,qE,tA];rw[f i (j+1) (L++[.sg c]) (by simp[e]),sN e];simp
 |pk h f=>
  intro i j L e;simp only[aai,qE,tA];rw[f (i+1) (j+1) (L++[.at i]) (by simp[e])];simp
 |@pd _ _ _ c h f=>
  intro i j L e;simp only[aai,qE,tA];rw[f i (j+1) (L++[.sg c]) (by simp[e])];simp
def Th.fit{a b r:List At}(h:Th a b r):∀t,bF (aA a) t=true->bF (aA b) (dA a t)=true->bF (aA r) t=true:=by
 induction h with
 |nil=>intro t c _;exact c
 |d h f=>
  intro t c e;cases t with
  |nil=>simp[aA,bF]at c
  |cons x t=>simp only[aA,bF,W2]at c ⊢;exact⟨c.1,f t c.2 e⟩
 |p _ h f=>intro t c e;exact f t c e
 |kk h f=>
  intro t c e;cases t with
  |nil=>simp[aA,bF]at c
  |cons x t=>simp only[aA,bF,W2,dA,aaG,List.take_zero,abp,abl,acP]at c e ⊢;exact⟨c.1,f t c.2 e.2⟩
 |kd h f=>
  intro t c e;cases t with
  |nil=>simp[aA,bF]at c
  |cons x t=>simp only[aA,bF,W2,dA,aaG,List.take_zero,abp,abl,acP]at c e ⊢;exact⟨e.1,f t c.2 e.2⟩
 |pk h f=>intro t c e;simp only[aA,dA,bF,W2]at c e ⊢;exact f t c e.2
 |pd h f=>intro t c e;simp only[aA,dA,bF,W2]at c e ⊢;exact f t c e.2
def Th.all:∀(n:Nat) (a b:List At) (t:List Nat),a.length+b.length<=n->bF (aA a) t=true->bF (aA b) (dA a t)=true->∃r,Th a b r:=by
 intro n;induction n with
 |zero=>
  intro a b t g _ _;obtain rfl:a=[]:=List.length_eq_zero_iff.mp (by omega);obtain rfl:b=[]:=List.length_eq_zero_iff.mp (by omega);exact⟨[],.nil⟩
 |succ n i=>
  intro a b t g f e;cases a with
  |nil=>
   cases b with
   |nil=>exact⟨[],.nil⟩
   |cons y b=>
    cases y with
    |p c=>obtain⟨r,h⟩:=i [] b t (by simp at g ⊢;omega) f e;exact⟨_,.p rfl h⟩
    |k=>simp[aA,dA,bF]at e
    |d c=>simp[aA,dA,bF]at e
  |cons x a=>
   by_cases j:EF (x :: a)=true
   .cases b with
    |nil=>
     cases x with
     |d c=>cases j
     |k=>cases t<;>simp[aA,dA,bF]at f e
     |p c=>simp[aA,dA,bF]at e
    |cons y b=>
     cases y with
     |p c=>obtain⟨r,h⟩:=i (x :: a) b t (by simp at g ⊢;omega) f e;exact⟨_,.p j h⟩
     |k=>
      cases x with
      |d c=>cases j
      |k=>
       cases t with
       |nil=>simp[aA,bF]at f
       |cons z t=>
        simp[aA,bF,dA]at f e;obtain⟨r,h⟩:=i a b t (by simp at g ⊢;omega) f e;exact⟨_,.kk h⟩
      |p c=>
       simp[aA,bF,dA]at f e;obtain⟨r,h⟩:=i a b t (by simp at g ⊢;omega) f e;exact⟨_,.pk h⟩
     |d l=>
      cases x with
      |d c=>cases j
      |k=>
       cases t with
       |nil=>simp[aA,bF]at f
       |cons z t=>
        simp[aA,bF,dA]at f e;obtain⟨r,h⟩:=i a b t (by simp at g ⊢;omega) f e.2;exact⟨_,.kd h⟩
      |p c=>
       simp[aA,bF,dA]at f e;obtain⟨rfl,e⟩:=e;obtain⟨r,h⟩:=i a b t (by simp at g ⊢;omega) f e;exact⟨_,.pd h⟩
   .cases x with
    |k=>exact absurd rfl j
    |p c=>exact absurd rfl j
    |d c=>
     cases t with
     |nil=>simp[aA,bF]at f
     |cons z t=>
      simp[aA,bF]at f;obtain⟨r,h⟩:=i a b t (by simp at g ⊢;omega) f.2 e;exact⟨_,.d h⟩
def Th.done{a b r:List At}(h:Th a b r):∀t,bF (aA a) t=true->dA r t=dA b (dA a t):=by
 induction h with
 |nil=>intro t _;rfl
 |d h e=>
  intro t c;cases t with
  |nil=>simp[aA,bF]at c
  |cons x t=>simp only[aA,bF,W2]at c;simp only[dA];exact e t c.2
 |p _ h e=>intro t c;simp only[dA];rw[e t c]
 |kk h e=>
  intro t c;cases t with
  |nil=>simp[aA,bF]at c
  |cons x t=>simp only[aA,bF,W2]at c;simp[dA,e t c.2]
 |kd h e=>
  intro t c;cases t with
  |nil=>simp[aA,bF]at c
  |cons x t=>simp only[aA,bF,W2]at c;simp[dA,e t c.2]
 |pk h e=>intro t c;simp[dA,e t c]
 |pd h e=>intro t c;simp[dA,e t c]
def Th.cost{a b r:List At}(h:Th a b r):cA r<=cA a+cA b:=by induction h<;>simp[cA]<;>omega
def Th.len{a b r:List At}(h:Th a b r):r.length<=a.length+b.length:=by induction h<;>simp<;>omega
theorem Th.ds{b r:List At}:∀{s:List Nat}{a:List At},Th (s.map .d++a) b r->∃r',r=s.map .d++r'/\Th a b r'
 |[],a,h=>⟨r,rfl,h⟩
 |c :: s,a,h=>by
  cases h with
  |d h=>obtain⟨r',rfl,e⟩:=Th.ds h;exact⟨r',rfl,e⟩
  |p f h=>cases f
theorem Th.ps{a r:List At}(hn:EF a=true):∀{s:List Nat}{b:List At},Th a (s.map .p++b) r->∃r',r=s.map .p++r'/\Th a b r'
 |[],b,h=>⟨r,rfl,h⟩
 |c :: s,b,h=>by
  cases h with
  |d h=>cases hn
  |p _ h=>obtain⟨r',rfl,e⟩:=Th.ps hn h;exact⟨r',rfl,e⟩
def Th.YB{a b r:List At}:∀{n:Nat},Th (List.replicate n .k++a) (List.replicate n .k++b) r->∃r',r=List.replicate n .k++r'/\Th a b r':=λ{n}=>by
 induction n generalizing r with
 |zero=>intro h;exact⟨r,rfl,h⟩
 |succ n c=>intro h;cases h with|kk h=>obtain⟨r',rfl,d⟩:=c h;exact⟨r',rfl,d⟩
def Th.YC{a b r:List At}:∀{s:List Nat},Th (List.replicate s.length .k++a) (s.map .d++b) r->∃r',r=s.map .d++r'/\Th a b r':=λ{s}=>by
 induction s generalizing r with
 |nil=>intro h;exact⟨r,rfl,h⟩
 |cons c s e=>intro h;cases h with|kd h=>obtain⟨r',rfl,f⟩:=e h;exact⟨r',rfl,f⟩
def Th.YD{a b r:List At}:∀{s:List Nat},Th (s.map .p++a) (List.replicate s.length .k++b) r->∃r',r=s.map .p++r'/\Th a b r':=λ{s}=>by
 induction s generalizing r with
 |nil=>intro h;exact⟨r,rfl,h⟩
 |cons c s d=>intro h;cases h with|pk h=>obtain⟨r',rfl,e⟩:=d h;exact⟨r',rfl,e⟩
theorem Th.Vl{a b r:List At}:∀{s s':List Nat},s.length=s'.length->Th (s.map .p++a) (s'.map .d++b) r->s=s'/\Th a b r
 |[],[],_,h=>⟨rfl,h⟩
 |[],_ :: _,hl,_=>by simp at hl
 |_ :: _,[],hl,_=>by simp at hl
 |c :: s,c' :: s',hl,h=>by cases h with|pd h=>obtain⟨rfl,e⟩:=Th.Vl (by simpa using hl) h;exact⟨rfl,e⟩
theorem jK:∀(a:List At) (i q:Nat),Tq.at q∈tA i a↔∃j,q=i+j/\(aA a)[j]?=some []
 |[],i,q=>by simp[tA,aA]
 |.k :: a,i,q=>by
  simp only[tA,acV,jK a,aA];constructor
  .rintro(h|⟨j,rfl,h⟩)
   .cases h;exact⟨0,rfl,by simp⟩
   .exact⟨j+1,by omega,by simpa using h⟩
  .rintro⟨j,rfl,h⟩;cases j with
   |zero=>exact .inl rfl
   |succ j=>exact .inr ⟨j,by omega,by simpa using h⟩
 |.d c :: a,i,q=>by
  simp only[tA,jK a,aA];constructor
  .rintro⟨j,rfl,h⟩;exact⟨j+1,by omega,by simpa using h⟩
  .rintro⟨j,rfl,h⟩;cases j with
   |zero=>simp at h
   |succ j=>exact⟨j,by omega,by simpa using h⟩
 |.p c :: a,i,q=>by simp[tA,jK a,aA]
def sub_sub(L M:List Tq)(q:Tq):sub M (sub L q)=sub (L.map (sub M)) q:=by
 cases q with
 |sg c=>rfl
 |«at» j=>
  simp only[sub,abf,aaA];cases L[j]?<;>rfl
def Hx(L M T:List Tq):(T.map (sub L)).map (sub M)=T.map (sub (L.map (sub M))):=by
 rw[ab0];exact List.map_congr_left λq _=>sub_sub L M q
def Hy{a:List At}{M:List Tq}(h:∀j:Nat,(aA a)[j]?=some []->M[j]?=some (Tq.at j)):(tA 0 a).map (sub M)=tA 0 a:=by
 refine(List.map_congr_left λq b=>?_).trans (List.map_id _);cases q with
 |sg c=>rfl
 |«at» j=>
  obtain⟨i,d,e⟩:=(jK a 0 j).mp b;obtain rfl:i=j:=by omega
  simp[sub,h i e]
def LQ(L:List Tq):((List.range L.length).map Tq.at).map (sub L)=L:=by
 apply abh;intro i;by_cases h:i<L.length
 .simp[sub,h]
 .rw[aar (by simp;omega),aar (by omega)]
def yp{c:List Pt}{t:List Nat}(h:aZ c t=true):(aC c t).length=ir c:=by
 rw[gW (yj c t h).1,Qy]
end Pv
namespace Pv
open Ev (D bV bR TY BI ME T E Es Eo It S Ss Fn big deep b2i rep cG eV bU bg cut cX br slots)
noncomputable def yq(dY:Nat)(Ce:Nat)(qf:Nat):Ss:=(.cons (.iff (.an (.v 2) (.cmp .eq (.ix (.ix (.v 2) (.neg (.c (.int 1)))) (.c (.int 0))) (.c (.str [100,114,111,112])))) (.cons (.exp (.me .append (.v 4) (.cons (.me .pop (.v 2) .nil) .nil))) .nil) (.cons (.iff (.an (.v 3) (.cmp .eq (.ix (.ix (.v 3) (.neg (.c (.int 1)))) (.c (.int 0))) (.c (.str [112,117,116])))) (.cons (.exp (.me .append (.v 4) (.cons (.me .pop (.v 3) .nil) .nil))) .nil) (.cons (.set 5 (.bi .min (.cons (.cl dY (.cons (.ix (.v 2) (.neg (.c (.int 1)))) .nil)) (.cons (.cl dY (.cons (.ix (.v 3) (.neg (.c (.int 1)))) .nil)) .nil)))) (.cons (.exp (.me .extend (.v 4) (.cons (.cl Ce (.cons (.cl qf (.cons (.v 2) (.cons (.v 5) .nil))) (.cons (.cl qf (.cons (.v 3) (.cons (.v 5) .nil))) .nil))) .nil))) .nil))) .nil)) .nil)
noncomputable def mL(LR:Nat)(Hz:Nat)(pA:Nat)(dY:Nat)(Ce:Nat)(qf:Nat):Fn:=⟨2,6,(.cons (.iff (.cmp .ne (.cl LR (.cons (.v 0) .nil)) (.cl Hz (.cons (.v 1) .nil))) (.cons (.gp 0) .nil) .nil) (.cons (.set 2 (.jF (.rev (.cl pA (.cons (.v 0) .nil))))) (.cons (.set 3 (.jF (.rev (.cl pA (.cons (.v 1) .nil))))) (.cons (.set 4 (.lst .nil)) (.cons (.qt (.orr (.v 2) (.v 3)) (yq dY Ce qf)) (.cons (.ret (.cl pA (.cons (.jT (.v 4)) .nil))) .nil))))))⟩
noncomputable def j6(EG:Nat)(QB:Nat):Fn:=⟨2,4,(.cons (.set 2 (.cl EG (.cons (.v 0) .nil))) (.cons (.for (.one 3) (.seq (.v 1)) (.cons (.set 2 (.cl QB (.cons (.v 2) (.cons (.v 3) .nil)))) .nil)) (.cons (.ret (.v 2)) .nil)))⟩
noncomputable def vH:Fn:=⟨2,2,(.cons (.iff (.cmp .eq (.ix (.v 1) (.c (.int 0))) (.c (.str [107,101,101,112]))) (.cons (.ret (.lst (.cons (.v 0) .nil))) .nil) .nil) (.cons (.iff (.cmp .eq (.ix (.v 0) (.c (.int 0))) (.c (.str [107,101,101,112]))) (.cons (.ret (.lst (.cons (.v 1) .nil))) .nil) .nil) (.cons (.iff (.cmp .ne (.ix (.v 0) (.c (.int 1))) (.ix (.v 1) (.c (.int 1)))) (.cons (.gp 0) .nil) .nil) (.cons (.ret (.lst .nil)) .nil))))⟩
noncomputable def qg(HA:Nat)(dY:Nat):Fn:=⟨2,3,(.cons (.set 2 (.cl HA (.cons (.me .pop (.v 0) .nil) (.cons (.v 1) .nil)))) (.cons (.iff (.cmp .gt (.cl dY (.cons (.ix (.v 2) (.c (.int 1))) .nil)) (.c (.int 0))) (.cons (.exp (.me .append (.v 0) (.cons (.ix (.v 2) (.c (.int 1))) .nil))) .nil) .nil) (.cons (.ret (.ix (.v 2) (.c (.int 0)))) .nil)))⟩
noncomputable def kM:Fn:=⟨2,3,(.cons (.set 2 (.ix (.v 0) (.c (.int 0)))) (.cons (.iff (.cmp .eq (.v 2) (.c (.str [107,101,101,112]))) (.cons (.ret (.tup (.cons (.tup (.cons (.v 2) (.cons (.v 1) .nil))) (.cons (.tup (.cons (.v 2) (.cons (.bin .sub (.ix (.v 0) (.c (.int 1))) (.v 1)) .nil))) .nil)))) .nil) .nil) (.cons (.ret (.tup (.cons (.tup (.cons (.v 2) (.cons (.sl (.ix (.v 0) (.c (.int 1))) .no (.yes (.v 1))) .nil))) (.cons (.tup (.cons (.v 2) (.cons (.sl (.ix (.v 0) (.c (.int 1))) (.yes (.v 1)) .no) .nil))) .nil)))) .nil)))⟩
noncomputable def Pt.tk(m:Nat):Pt->Pt
 |.keep _=>.keep m
 |.put s=>.put (s.take m)
 |.drop s=>.drop (s.take m)
noncomputable def Pt.dp(m:Nat):Pt->Pt
 |.keep k=>.keep (k - m)
 |.put s=>.put (s.drop m)
 |.drop s=>.drop (s.drop m)
def Jh{α:Type}(l:List α)(m:Nat):cut l none (some (m:Int))=l.take m:=by
 have a:¬ (m:Int)<0:=by omega
 simp only[cut,bg,a,aaZ,abU,abl,Nat.sub_zero];by_cases h:m<=l.length
 .rw[ab2 h]
 .rw[acr (by omega),aaM (aae _),aaM (by omega)]
def Ji{α:Type}(l:List α)(m:Nat):cut l (some (m:Int)) none=l.drop m:=by
 have a:¬ (m:Int)<0:=by omega
 simp only[cut,bg,a,aaZ,abU];by_cases h:m<=l.length
 .rw[ab2 h,aaM (by simp)]
 .rw[acr (by omega),aa9 (aae _),aa9 (by omega)];simp
section
variable{F:List Fn}{w n dO aK dU b8 cP bX eB dw i:Nat}
def Cf(hf:F[i]?=some kM)(p:Pt)(m:Nat)(h:m<=p.n):run F w (n+1) i [.val p.v,.val (.int m)]=some (.tup [(p.tk m).v,(p.dp m).v],[]):=by
 refine bZ hf rfl ?_;cases p with
 |keep k=>
  refine ah (aR (by repeat array_get_dec) rfl rfl ?_);refine ah (aI (by repeat array_get_dec) (λ_=>?_) λh=>absurd h (by decide));refine ah (bS (by repeat array_get_dec) ⟨?_,rfl⟩);have:(k:Int) - m=((k - m:Nat):Int):=by simp only[Pt.n]at h;omega
  exact aau (λz=>Fl.ret (V.tup [V.tup [V.str ff,V.int m],V.tup [V.str ff,V.int z]])) this
 |put s=>
  have a:fX (.str s) none (some (m:Int))=some (.str (s.take m)):=by rw[gP,Jh]
  have b:fX (.str s) (some (m:Int)) none=some (.str (s.drop m)):=by rw[gP,Ji]
  refine ah (aR (by repeat array_get_dec) rfl rfl ?_);refine ah (aI (by repeat array_get_dec) (zD ·) λ_=>az ?_);exact ah (bS (by repeat array_get_dec) ⟨rfl,rfl⟩)
 |drop s=>
  have a:fX (.str s) none (some (m:Int))=some (.str (s.take m)):=by rw[gP,Jh]
  have b:fX (.str s) (some (m:Int)) none=some (.str (s.drop m)):=by rw[gP,Ji]
  refine ah (aR (by repeat array_get_dec) rfl rfl ?_);refine ah (aI (by repeat array_get_dec) (zD ·) λ_=>az ?_);exact ah (bS (by repeat array_get_dec) ⟨rfl,rfl⟩)
def tW(m:Nat)(p:Pt):(p.dp m).n=p.n - m:=by cases p<;>simp[Pt.dp,Pt.n]
def uV(hs:F[aK]?=some fz)(hp:F[dO]?=some kM)(hf:F[i]?=some (qg dO aK))(L:List V)(p:Pt)(m:Nat)(h:m<=p.n)(hn:p.n<=100000)(hL:L.length<=10000) :
  run F w (n+2) i [.bor (L++[p.v]),.val (.int m)]=some ((p.tk m).v,[L++if 0<p.n - m then [(p.dp m).v]else []]):=by
 refine bZ hf rfl ?_;have b:=λfr=>call2 (fr:=fr) (Cf (F:=F) (w:=w) (n:=n) hp p m h);have c:=λfr=>fU (fr:=fr) (jm (F:=F) (w:=w) (n:=n) hs (p.dp m) (by rw[tW];omega));have d:∀fr:Fr,iN .pop 0 [] fr (some (some (.bor (L++[p.v]))))=.ok p.v (fr.set 0 (some (.bor L))):=λfr=>LH;have e:∀fr:Fr,iN .append 0 [(p.dp m).v] fr (some (some (.bor L)))=.ok .aD (fr.set 0 (some (.bor (L++[(p.dp m).v])))):=λfr=>LG (by omega);refine ah (aR (by (repeat (first|array_get_dec|exact d _|exact b _))) rfl rfl ?_);refine ah (aI (by (repeat (first|array_get_dec|exact c _))) (λh=>?_) λh=>?_)
 .have a:=aaN h;rw[tW]at a;rw[LV (by omega)];refine ah (fc (by (repeat (first|array_get_dec|exact e _))) (az ?_));exact ah (bS (by repeat array_get_dec) ⟨rfl,rfl⟩)
 .have a:=aba h;rw[tW]at a;rw[aaj (by omega),aaD];exact az (ah (bS (by repeat array_get_dec) ⟨rfl,rfl⟩))
noncomputable def nH:Pt->Pt->Option (List Pt)
 |l,.keep _=>some [l]
 |.keep _,g=>some [g]
 |.put s,.drop s'=>if s=s' then some []else none
 |_,_=>none
def LS(hf:F[i]?=some vH)(p q:Pt)(r:List Pt)(h:nH p q=some r):run F w (n+1) i [.val p.v,.val q.v]=some (.lst (r.map Pt.v),[]):=by
 refine bZ hf rfl ?_;cases q with
 |keep k=>
  simp only[nH,abS]at h;subst h;refine ah (aI (by repeat array_get_dec) (λ_=>?_) λh=>absurd h (by decide));exact ah (bS (by repeat array_get_dec) ⟨rfl,rfl⟩)
 |put s=>
  cases p<;>simp[nH]at h
  subst h;refine ah (aI (by repeat array_get_dec) (zD ·) λ_=>az ?_);refine ah (aI (by repeat array_get_dec) (λ_=>?_) λh=>absurd h (by decide));exact ah (bS (by repeat array_get_dec) ⟨rfl,rfl⟩)
 |drop b=>
  cases p with
  |keep k=>
   simp only[nH,abS]at h;subst h;refine ah (aI (by repeat array_get_dec) (zD ·) λ_=>az ?_);refine ah (aI (by repeat array_get_dec) (λ_=>?_) λh=>absurd h (by decide));exact ah (bS (by repeat array_get_dec) ⟨rfl,rfl⟩)
  |drop s=>simp[nH]at h
  |put s=>
   simp only[nH]at h;split at h
   .rename_i a;subst a;cases h;refine ah (aI (by repeat array_get_dec) (zD ·) λ_=>az ?_);refine ah (aI (by repeat array_get_dec) (zD ·) λ_=>az ?_);refine ah (aI (by repeat array_get_dec) (λh=>?_) λ_=>az ?_)
    .simp at h
    .exact ah (bS (by repeat array_get_dec) ⟨rfl,rfl⟩)
   .cases h
def jr{l:List V}{v:V}:gj (.lst (l++[v])) (.int (-1))=some v:=by rw[Lo,Qk];simp
def lN{l:List V}{v:V}:truthy (.lst (l++[v]))=true:=by simp
def Jj{P:aS}{f i:Nat}{fr:Fr}{b v:V}{l l':List V}(e:fr[i]?=some (some (.own l)))(h:P f [.bor l,.val b]=some (v,[l'])):gM P f [.inl i,.inr b] fr=.ok v (fr.set i (some (.own l'))):=by
 have a:lent fr i=some (.bor l):=by rw[LD,e];rfl
 simp[gM,b6,args,a,h,back,e,Sl.with]
def ki{c:List Pt}(h:pg c=true):∀p∈c,0<p.n:=λp a=>by
 simp only[pg,W2,List.all_eq_true]at h;have:=h.2 p a;simp only[Qx,bne_iff_ne,ne_eq]at this;omega
theorem jt:∀{c:List Pt},(∀p∈c,0<p.n)->c.length<=tot c
 |[],_=>by simp[tot]
 |p :: c,h=>by
  have b:=h p (by simp);have d:=jt (c:=c) λq a=>h q (by simp[a]);rw[bB,aal];omega
def Cg{p:Pt}{m:Nat}(h:m<=p.n):(p.tk m).bf++(p.dp m).bf=p.bf/\(p.tk m).n=m:=by
 cases p with
 |keep k=>simp only[Pt.n]at h;simp[Pt.tk,Pt.dp,Pt.bf,Pt.n,h]
 |put s=>simp only[Pt.n]at h;simp[Pt.tk,Pt.dp,Pt.bf,Pt.n,h,<-aao]
 |drop s=>simp only[Pt.n]at h;simp[Pt.tk,Pt.dp,Pt.bf,Pt.n,h,<-aao]
noncomputable def lP(m:Nat)(p:Pt):List Pt:=if 0<p.n - m then [p.dp m]else []
def AR{p:Pt}{m:Nat}(h:m<=p.n):p.bf=(p.tk m).bf++bf (lP m p):=by
 rw[<- (Cg h).1]
 congr 1
 unfold lP;split
 .simp[bf]
 .rename_i a;have:(p.dp m).bf.length=0:=by rw[ym,tW];omega
  rw[List.length_eq_zero_iff.mp this];rfl
def AS(m:Nat)(p:Pt):∀q∈lP m p,0<q.n:=λq a=>by
 unfold lP at a;split at a
 .simp at a;subst a;rw[tW];omega
 .simp at a
def LU(m:Nat)(p:Pt)(A:List Pt):((lP m p++A).map Pt.v).reverse=(A.map Pt.v).reverse++if 0<p.n - m then [(p.dp m).v]else []:=by
 unfold lP;split<;>simp
def qh(m:Nat)(p:Pt):tot (lP m p)=p.n - m:=by
 unfold lP;split
 .simp[tot,tW]
 .simp[tot];omega
def AU{m:Nat}{p:Pt}:ek (p.tk m)=ek p/\cL (p.tk m)=cL p:=by cases p<;>exact⟨rfl,rfl⟩
def QC{A B r:List At}(p q:Pt)(hp:ek p=false)(hq:cL q=false)(hn:p.n=q.n)(h:Th (p.bf++A) (q.bf++B) r):∃m r',nH p q=some m/\m.length<=1/\r=bf m++r'/\Th A B r':=by
 cases p with
 |drop s=>cases hp
 |keep k=>
  cases q with
  |put s=>cases hq
  |keep b=>simp only[Pt.n]at hn;subst hn;obtain⟨r',rfl,a⟩:=Th.YB h;exact⟨[.keep k],r',rfl,by simp,by simp[bf,Pt.bf],a⟩
  |drop s=>simp only[Pt.n]at hn;subst hn;obtain⟨r',rfl,a⟩:=Th.YC h;exact⟨[.drop s],r',rfl,by simp,by simp[bf,Pt.bf],a⟩
 |put s=>
  cases q with
  |put c=>cases hq
  |keep b=>simp only[Pt.n]at hn;subst hn;obtain⟨r',rfl,a⟩:=Th.YD h;exact⟨[.put s],r',rfl,by simp,by simp[bf,Pt.bf],a⟩
  |drop c=>simp only[Pt.n]at hn;obtain⟨rfl,a⟩:=Th.Vl hn h;exact⟨[],r,by simp[nH],by simp,by simp[bf],a⟩
structure Tn(one other c:List Pt)(t:List Nat):Prop where
 CT:bE c=c
 fit:aZ c t=true
 dn:aC c t=aC other (aC one t)
 Jk:told 0 c=(told 0 other).map (sub (told 0 one))
 QD:told 0 (sw c)=(told 0 (sw one)).map (sub (told 0 (sw other)))
 cs:cst c<=cst one+cst other
 tt:tot c<=tot one+tot other
 ln:c.length<=tot c
 th:∃ps,c=bE ps/\Th (bf (bE one)) (bf (bE other)) (bf ps)
def Uj{one other ps:List Pt}{t:List Nat}(h1:aZ one t=true)(h2:aZ other (aC one t)=true)(h:Th (bf (bE one)) (bf (bE other)) (bf ps)):Tn one other (bE ps) t:=by
 have f1:bF (aA (bf (bE one))) t=true:=by rw[<-iF,gF,<-iu];exact h1
 have f2:bF (aA (bf (bE other))) (dA (bf (bE one)) t)=true:=by rw[<-iF,gF,<-gH,gG,<-iu];exact h2
 have b:=h.back 0 0 [] rfl;rw[<-yo,<-yo,<-yo,<-fD,<-fD,<-fD]at b;have a:∀c i,told i (sw (bE c))=told i (sw c):=λc i=>by
  have:=aau (told i) (AO (lK c));rwa [dF,dF]at this
 refine⟨lK _,?_,?_,?_,?_,?_,?_,jt (ki (jq _)),ps,rfl,h⟩
 .rw[qY,iu,iF];exact h.fit t f1 f2
 .rw[gG,gH,h.done t f1,<-gH,gG,<-gH,gG]
 .have:=h.told 0 0 [] rfl;rw[<-fD,<-fD,<-fD,dF,dF]at this;rw[dF];exact this
 .rw[a,<-a one,<-a other];exact b
 .have:=h.cost;rw[<-qe,<-qe,<-qe,qX,qX]at this;rw[qX];exact this
 .have:=h.len;rw[kh,kh,kh,jn,jn]at this;rw[jn];exact this
section
variable(hs:F[aK]?=some fz)(hp:F[dO]?=some kM)(ht:F[b8]?=some (qg dO aK))(hm:F[dU]?=some vH){one other:List Pt}{r:List At}{N:Nat}(hN:N<=5000)
noncomputable def gf(one other A B C:List Pt)(a:Option Sl):Fr:=[some (.val (aY one)),some (.val (aY other)),some (.own (A.map Pt.v).reverse),some (.own (B.map Pt.v).reverse),some (.own (C.map Pt.v)),a]
inductive QE(one other:List Pt)(r:List At)(N k:Nat)(fr:Fr):Prop
 |mk (A B C:List Pt) (r':List At) (a:Option Sl) (c0:Th (bf A) (bf B) r') (c1:bf C++r'=r) (c2:∀p∈A,0<p.n) (c3:∀p∈B,0<p.n) (c4:C.length+k<=N) (c5:k=tot A+tot B) (c6:vo a) (c7:fr=gf one other A B C a):QE one other r N k fr
include hs hp ht hm hN
noncomputable def EH(aK dU b8:Nat):Ss:=(.cons (.set 5 (.bi .min (.cons (.cl aK (.cons (.ix (.v 2) (.neg (.c (.int 1)))) .nil)) (.cons (.cl aK (.cons (.ix (.v 3) (.neg (.c (.int 1)))) .nil)) .nil)))) (.cons (.exp (.me .extend (.v 4) (.cons (.cl dU (.cons (.cl b8 (.cons (.v 2) (.cons (.v 5) .nil))) (.cons (.cl b8 (.cons (.v 3) (.cons (.v 5) .nil))) .nil))) .nil))) .nil))
noncomputable def yr(aK dU b8:Nat):Ss:=.cons (.iff (.an (.v 3) (.cmp .eq (.ix (.ix (.v 3) (.neg (.c (.int 1)))) (.c (.int 0))) (.c (.str [112,117,116])))) (.cons (.exp (.me .append (.v 4) (.cons (.me .pop (.v 3) .nil) .nil))) .nil) (EH aK dU b8)) .nil
def yt(one other:List Pt)(r:List At)(N t:Nat)(g:Fl)(fr:Fr):Prop:=g=.nx/\∃j,j<t/\QE one other r N j fr
omit hs hp ht hm hN in
theorem EI{C:List Pt}(lC:C.length<=5000)(d:Pt)(fr:Fr):iN .append 4 [d.v] fr (some (some (.own (C.map Pt.v))))=.ok .aD (fr.set 4 (some (.own ((C++[d]).map Pt.v)))):=by
 rw[aao];exact qa (by simp;omega)
omit hs hp ht hm in
theorem yu(A B C:List Pt)(s:List Nat)(r':List At)(a:Option Sl)(h:Th (bf A) (bf (.put s :: B)) r')(hn:EF (bf A)=true)(hC:bf C++r'=r)(hA:∀p∈A,0<p.n)(hB:∀p∈(.put s :: B),0<p.n)(hk:C.length+(tot A+tot (.put s :: B))<=N)(ha:vo a) :
  Wp (exs (run F w (n+2)) w (yr aK dU b8) (gf one other A (.put s :: B) C a)) (yt one other r N (tot A+tot (.put s :: B))):=by
 have b:C.length<=5000:=by omega
 rw[dN]at h;obtain⟨c,d,e⟩:=Th.ps hn h;have f:=hB (.put s) (by simp);unfold gf;rw[aai,aaw];refine ah (aI (jI (aE rfl (au rfl) lN) (by (repeat (first|array_get_dec|exact jr)))) (λ_=>?_) λh=>absurd h (by decide));refine ah (fc (by (repeat (first|array_get_dec|exact AH|exact EI b _ _))) (az (az ?_)));refine⟨rfl,tot A+tot B,by rw[bB];omega,A,B,C++[.put s],c,a,e,?_,hA,λx g=>hB x (by simp[g]),?_,rfl,ha,rfl⟩
 .rw[<-hC,d,kg];simp[bf,Pt.bf]
 .rw[bB]at hk;simp;omega
omit hN in
theorem QF(A B C mm:List Pt)(p q:Pt)(m:Nat)(a:Option Sl)(mn:cY .min [.int p.n,.int q.n]=some (.int m))(hm1:m<=p.n)(hm2:m<=q.n)(lp:p.n<=5000)(lq:q.n<=5000)(lA:A.length<=5000)(lB:B.length<=5000)(lC:C.length+mm.length<=10000)(e1:nH (p.tk m) (q.tk m)=some mm)(ha:vo a)(Q:Fl->Fr->Prop)
  (hQ:Q .nx (gf one other (lP m p++A) (lP m q++B) (C++mm) (some (.val (.int m))))):Wp (exs (run F w (n+2)) w (EH aK dU b8) (gf one other (p :: A) (q :: B) C a)) Q:=by
 have d:=λfr=>fU (fr:=fr) (jm (F:=F) (w:=w) (n:=n+1) hs p (aas lp (by decide)));have e:=λfr=>fU (fr:=fr) (jm (F:=F) (w:=w) (n:=n+1) hs q (aas lq (by decide)));have b:=uV (F:=F) (w:=w) (n:=n) hs hp ht (A.map Pt.v).reverse p m hm1 (by omega) (by simp;omega);have c:=uV (F:=F) (w:=w) (n:=n) hs hp ht (B.map Pt.v).reverse q m hm2 (by omega) (by simp;omega);rw[<-LU]at b c;have f:=λfr=>call2 (fr:=fr) (LS (F:=F) (w:=w) (n:=n+1) hm _ _ mm e1);have ex:∀fr:Fr,iN .extend 4 [.lst (mm.map Pt.v)] fr (some (some (.own (C.map Pt.v))))=.ok .aD (fr.set 4 (some (.own ((C++mm).map Pt.v)))):=λfr=>by
  rw[aao];exact kc (by simp;omega)
 unfold gf at hQ ⊢;rw[aai,aaw,aai,aaw];refine ah (aR (by (repeat (first|array_get_dec|exact jr|exact d _|exact e _))) rfl (gD rfl ha) ?_);exact ah (fc (by (repeat (first|array_get_dec|exact Jj rfl b|exact Jj rfl c|exact f _|exact ex _))) (az hQ))
theorem HB(A B C:List Pt)(p q:Pt)(r':List At)(a:Option Sl)(hd:ek p=false)(hq:cL q=false)(h:Th (bf (p :: A)) (bf (q :: B)) r')(hC:bf C++r'=r)(hA:∀x∈p :: A,0<x.n)(hB:∀x∈q :: B,0<x.n)(hk:C.length+(tot (p :: A)+tot (q :: B))<=N)(ha:vo a) :
  Wp (exs (run F w (n+2)) w (yr aK dU b8) (gf one other (p :: A) (q :: B) C a)) (yt one other r N (tot (p :: A)+tot (q :: B))):=by
 have f:=hA p (by simp);have UY:=hB q (by simp);obtain⟨m,hm1,hm2,Zl⟩:∃m:Nat,m<=p.n/\m<=q.n/\(m=p.n\/m=q.n):=⟨min p.n q.n,by omega,by omega,by omega⟩
 have g:cY .min [.int p.n,.int q.n]=some (.int m):=by
  rw[PM];split
  .congr 2;omega
  .congr 2;omega
 rw[bB,bB]at hk;have G:=jt (c:=A) λx b=>hA x (by simp[b]);have H:=jt (c:=B) λx b=>hB x (by simp[b]);have j:Th ((p.tk m).bf++bf (lP m p++A)) ((q.tk m).bf++bf (lP m q++B)) r':=by
  rw[kg,kg,<-aaO,<-aaO,<-AR hm1,<-AR hm2,<-dN,<-dN];exact h
 obtain⟨e,l,o,I,y,z⟩:=QC (p.tk m) (q.tk m) (by rw[AU.1];exact hd) (by rw[AU.2];exact hq) (by rw[(Cg hm1).2,(Cg hm2).2]) j;have fin:yt one other r N (tot (p :: A)+tot (q :: B)) .nx (gf one other (lP m p++A) (lP m q++B) (C++e) (some (.val (.int m)))):=by
  refine⟨rfl,_,?_,_,_,_,l,_,z,?_,?_,?_,?_,rfl,.val,rfl⟩
  .rw[ee,ee,qh,qh,bB,bB];omega
  .rw[kg,aaO,<-y];exact hC
  .intro x b;rcases List.mem_append.mp b with b|b
   .exact AS m p x b
   .exact hA x (aap _ b)
  .intro x b;rcases List.mem_append.mp b with b|b
   .exact AS m q x b
   .exact hB x (aap _ b)
  .rw[ee,ee,qh,qh,aam];omega
 have d:=QF (one:=one) (other:=other) (w:=w) (n:=n) hs hp ht hm A B C e p q m a g hm1 hm2 (by omega) (by omega) (by omega) (by omega) (by omega) o ha _ (show nx (run F w (n+2)) w .nil (yt one other r N (tot (p :: A)+tot (q :: B))) .nx _ from az fin);unfold gf at d ⊢;rw[aai,aaw,aai,aaw]at d ⊢;cases q with
 |put s=>cases hq
 |keep k=>exact ah (aI (jI (aE rfl (au rfl) lN) (by (repeat (first|array_get_dec|exact jr)))) (zD ·) λ_=>d)
 |drop s=>exact ah (aI (jI (aE rfl (au rfl) lN) (by (repeat (first|array_get_dec|exact jr)))) (zD ·) λ_=>d)
omit hs hp ht hm hN in
theorem Vm{b r:List At}{x:At}(h:Th [] (x :: b) r):∃c,x=.p c:=by cases h with|p=>exact⟨_,rfl⟩
omit hs hp ht hm hN in
theorem Vn{a r:List At}{x:At}(h:Th (x :: a) [] r):∃c,x=.d c:=by cases h with|d=>exact⟨_,rfl⟩
theorem EJ(A B C:List Pt)(r':List At)(a:Option Sl)(hne:A≠[]\/B≠[])(h:Th (bf A) (bf B) r')(hC:bf C++r'=r)(hA:∀p∈A,0<p.n)(hB:∀p∈B,0<p.n)(hk:C.length+(tot A+tot B)<=N)(ha:vo a) :
  Wp (exs (run F w (n+2)) w (yq aK dU b8) (gf one other A B C a)) (yt one other r N (tot A+tot B)):=by
 cases A with
 |nil=>
  cases B with
  |nil=>exact absurd hne (by simp)
  |cons q B'=>
   refine ah (aI (xV (aE rfl (au rfl) rfl)) (zD ·) λ_=>?_);have f:=hB q (by simp);cases q with
   |put s=>exact(yu hN [] B' C s r' a h rfl hC hA hB hk ha).mono λg z ⟨o,l⟩=>by subst o;exact az ⟨rfl,l⟩
   |keep k=>
    rw[dN]at h;cases k with
    |zero=>exact absurd f (aaF 0)
    |succ k=>obtain⟨c,e⟩:=Vm (x:=.k) h;cases e
   |drop s=>
    rw[dN]at h;cases s with
    |nil=>exact absurd f (aaF 0)
    |cons c s=>obtain⟨c,e⟩:=Vm (x:=.d c) h;cases e
 |cons p A'=>
  have b:=hA p (by simp);cases hd:ek p with
  |true=>
   cases p with
   |keep k=>cases hd
   |put s=>cases hd
   |drop s=>
    have G:C.length<=5000:=by omega
    rw[dN]at h;obtain⟨H,I,J⟩:=Th.ds h;unfold gf;rw[aai,aaw];refine ah (aI (jI (aE rfl (au rfl) lN) (by (repeat (first|array_get_dec|exact jr)))) (λ_=>?_) λh=>absurd h (by decide));refine ah (fc (by (repeat (first|array_get_dec|exact AH|exact EI G _ _))) (az (az ?_)));refine⟨rfl,tot A'+tot B,by rw[bB];omega,A',B,C++[.drop s],H,a,J,?_,λx l=>hA x (by simp[l]),hB,?_,rfl,ha,rfl⟩
    .rw[<-hC,I,kg];simp[bf,Pt.bf]
    .rw[bB]at hk;simp;omega
  |false=>
   have j:Wp (exs (run F w (n+2)) w (yr aK dU b8) (gf one other (p :: A') B C a)) (yt one other r N (tot (p :: A')+tot B)):=by
    cases B with
    |nil=>
     exfalso;rw[dN]at h;cases p with
     |drop s=>cases hd
     |keep k=>cases k with|zero=>exact absurd b (aaF 0)|succ k=>obtain⟨c,e⟩:=Vn (x:=.k) h;cases e
     |put s=>cases s with|nil=>exact absurd b (aaF 0)|cons c s=>obtain⟨c,e⟩:=Vn (x:=.p c) h;cases e
    |cons q B'=>
     cases f:cL q with
     |true=>
      have y:EF (bf (p :: A'))=true:=by
       rw[dN];cases p with
       |drop s=>cases hd
       |keep k=>cases k<;>first|exact absurd b (aaF 0)|rfl
       |put s=>cases s<;>first|exact absurd b (aaF 0)|rfl
      cases q with
      |keep k=>cases f
      |drop s=>cases f
      |put s=>exact yu hN (p :: A') B' C s r' a h y hC hA hB hk ha
     |false=>exact HB hs hp ht hm hN A' B' C p q r' a hd f h hC hA hB hk ha
   replace j:=j.mono (Q':=nx (run F w (n+2)) w .nil (yt one other r N (tot (p :: A')+tot B))) λg z ⟨o,l⟩=>by subst o;exact az ⟨rfl,l⟩
   unfold gf at j ⊢;rw[aai,aaw]at j ⊢;cases p with
   |drop s=>cases hd
   |keep k=>exact ah (aI (jI (aE rfl (au rfl) lN) (by (repeat (first|array_get_dec|exact jr)))) (zD ·) λ_=>j)
   |put s=>exact ah (aI (jI (aE rfl (au rfl) lN) (by (repeat (first|array_get_dec|exact jr)))) (zD ·) λ_=>j)
omit hN in
theorem HC(hst:F[bX]?=some gE)(hf:F[cP]?=some (mJ bX))(hb:F[dw]?=some (nB aK))(ha:F[eB]?=some (qd aK))(AV:F[i]?=some (mL eB dw cP aK dU b8))(hw:5000<w)
  (one other:List Pt) (t:List Nat) (h1:aZ one t=true) (h2:aZ other (aC one t)=true) (b1:tot one<=2000) (b2:tot other<=2000) (l1:one.length<=2000) (l2:other.length<=2000) :
  ∃c,run F w (n+3) i [.val (aY one),.val (aY other)]=some (aY c,[])/\Tn one other c t:=by
 have f1:bF (aA (bf (bE one))) t=true:=by rw[<-iF,gF,<-iu];exact h1
 have f2:bF (aA (bf (bE other))) (dA (bf (bE one)) t)=true:=by rw[<-iF,gF,<-gH,gG,<-iu];exact h2
 obtain⟨r,d⟩:=Th.all _ _ _ t (aae _) f1 f2;have G:ir one=ay other:=by rw[<-yp h1,gW h2]
 have ne:cop .ne (.int (ir one)) (.int (ay other))=some false:=by rw[sE,G];simp
 have H:=λfr=>fU (fr:=fr) (En (F:=F) (w:=w) (n:=n) hs ha one (by omega) (by omega));have I:=λfr=>fU (fr:=fr) (B9 (F:=F) (w:=w) (n:=n) hs hb other (by omega) (by omega));have J:=λfr=>fU (fr:=fr) (nC (F:=F) (w:=w) (n:=n) hst hf one (by omega) (by omega));have K:=λfr=>fU (fr:=fr) (nC (F:=F) (w:=w) (n:=n) hst hf other (by omega) (by omega));have t1:=jn one;have t2:=jn other;have g1:=jt (ki (jq one));have g2:=jt (ki (jq other));have L:dD ((bE one).map Pt.v).reverse=some (.lst ((bE one).map Pt.v).reverse):=cB (bH (by simp;omega));have M:dD ((bE other).map Pt.v).reverse=some (.lst ((bE other).map Pt.v).reverse):=cB (bH (by simp;omega));have f:Wp (exs (run F w (n+2)) w (mL eB dw cP aK dU b8).body (eU (mL eB dw cP aK dU b8) [.val (aY one),.val (aY other)])) λg fr=>∃ps,bf ps=r/\g=.ret (aY (bE ps))/\outs 2 fr=[]:=by
  refine ah (aI (by (repeat (first|array_get_dec|exact H _|exact I _))) (zD ·) λ_=>az ?_);refine ah (gz (l:=((bE one).map Pt.v).reverse) (B5 (Ek (cz (aP rfl (au rfl) bz) (J _)) rfl) L) rfl rfl ?_);refine ah (gz (l:=((bE other).map Pt.v).reverse) (B5 (Ek (cz (aP rfl (au rfl) bz) (K _)) rfl) M) rfl rfl ?_);refine ah (gz (l:=[]) (by repeat array_get_dec) rfl rfl ?_);refine ah (Ud (xR (QE one other r (tot one+tot other)) (λk fr P=>?_) w (tot one+tot other) _ (by omega) ⟨bE one,bE other,[],r,none,d,rfl,ki (jq one),ki (jq other),by simp,by omega,.none,rfl⟩));obtain⟨A,B,C,Q,a,z,j,W,X,hk,o,AW,rfl⟩:=P;by_cases b:A≠[]\/B≠[]
  .have x:aN (run F w (n+2)) (.orr (.v 2) (.v 3)) (gf one other A B C a)=.ok true (gf one other A B C a):=by
    cases A with
    |cons p A=>unfold gf;rw[aai,aaw];exact Ej (aE rfl (au rfl) lN)
    |nil=>
     cases B with
     |nil=>simp at b
     |cons q B=>unfold gf;rw[aai,aaw];exact sD (aE rfl (au rfl) rfl) (aE rfl (au rfl) lN)
   refine⟨true,_,x,?_⟩;dsimp only;rw[LV rfl];refine(EJ hs hp ht hm (N:=tot one+tot other) (by omega) A B C Q a b z j W X (by omega) AW).mono λg fr ⟨Y,Z⟩=>?_;subst Y o;exact Z
  .obtain⟨rfl,rfl⟩:A=[]/\B=[]:=by simpa using b
   refine⟨false,_,sD (aE rfl (au rfl) rfl) (aE rfl (au rfl) rfl),?_⟩;dsimp only;rw[aaj (by decide)];cases z;rw[aaD]at j;subst j;have lC:=d.len;rw[kh,kh,kh]at lC;have mt:toT (.lst (C.map Pt.v))=some (aY C):=by rw[AB];exact mH (bH (by simp;omega))
   have c5:=λfr=>fU (fr:=fr) (nC (F:=F) (w:=w) (n:=n) hst hf C (by omega) (by omega));have sh:fT (gf one other [] [] C a)=[some (.val (aY one)),some (.val (aY other)),some (.val (.lst [])),some (.val (.lst [])),some (.val (.lst (C.map Pt.v))),a]:=by
    show _ :: _ :: _ :: _ :: _ :: [a.map Sl.eE]=_;rw[dh AW];rfl
   refine ah (bS (v:=aY (bE C)) (af:=[some (.val (aY one)),some (.val (aY other)),some (.val (.lst [])),some (.val (.lst [])),some (.val (.lst (C.map Pt.v))),a]) ?_ ⟨C,rfl,rfl,rfl⟩);rw[sh];exact cz (aP rfl (B6 (au rfl) mt) bz) (c5 _)
 obtain⟨g,fr,e,ps,y,rfl,ho⟩:=f;refine⟨bE ps,?_,Uj h1 h2 (y▸d)⟩;rw[run_eq AV rfl,e];simp only[AE];rw[show outs (mL eB dw cP aK dU b8).np fr=[]from ho]
end
end
section
variable{F:List Fn}{w n dO aK dU b8 cP bX eB dw dR iy i:Nat}
def HD(hf:F[i]?=some QA)(c:List Pt)(t:List Nat)(h1:tot c<=10000)(h2:t.length<=10000)(h:aZ c t=true):run F w (n+1) i [.val (aY c),.val (.str t)]=some (.str (aC c t),[]):=by
 refine bZ hf rfl ?_;refine ah (aR (by repeat array_get_dec) rfl rfl ?_);refine ah (aR (by repeat array_get_dec) rfl rfl ?_);refine ah (gQ (vs:=c.map Pt.v) (cO (cT rfl) rfl) ?_);have Q:=kL c t;refine ez (e:=Pt.v) (λp l A=>p++l=c/\ay p<=t.length/\aZ l (t.drop (ay p))=true/\∃f a b,f++aC l (t.drop (ay p))=aC c t/\vo a/\vo b/\A=[some (.val (aY c)),some (.val (.str t)),some (.val (.int (ay p))),some (.val (.str f)),a,b]) (λp x l A ⟨g,Vo,d,f,a,b,q,r,y,o⟩=>?_) (λp A ⟨g,Vo,d,f,a,b,q,r,y,o⟩=>?_) c [] _ ⟨rfl,by simp[ay,tot],by simpa[ay,tot]using h,[],none,none,by simp[ay,tot],.none,.none,rfl⟩
 .subst o;have B:(p++[x])++l=c:=by simpa using g
  have C:=aau List.length q;rw[aam]at C;cases x with
  |put s=>
   have j:ay (p++[.put s])=ay p:=by rw[gU,gT];simp[ay,tot]
   have J:=nu (a:=f) (b:=s) (by simp[aC]at C;omega);refine cJ (fG rfl r rfl y) (ah (aI (by repeat array_get_dec) (λ_=>?_) λh=>absurd h (by decide)));refine ah (aR (by repeat array_get_dec) rfl rfl (az (az ?_)));rw[dG,j];exact⟨B,Vo,d,f++s,_,_,by simpa[aC]using q,.val,.val,rfl⟩
  |drop s=>
   simp only[aZ,W2]at d;have j:ay (p++[.drop s])=ay p+s.length:=by rw[gU,iC];simp[ay,tot]
   have G:((ay (p++[.drop s]):Nat):Int)=(ay p:Int)+(s.length:Nat):=by rw[j];simp
   have z:=d.1;rw[pre_take]at z;have z:=aaN z;have K:s.length<=(t.drop (ay p)).length:=by have:=aau List.length z;simp at this ⊢;omega
   have H:ay p+s.length<=t.length:=by simp at K;omega
   have L:cY .len [.str s]=some (.int (s.length:Nat)):=abC (by omega);have M:fX (.str t) (some (ay p:Int)) (some ((ay p:Int)+(s.length:Nat)))=some (.str s):=by rw[gP,jJ,z]
   refine cJ (fG rfl r rfl y) (ah (aI (by repeat array_get_dec) (zD ·) λ_=>?_));refine ah (aI (by repeat array_get_dec) (λ_=>?_) λh=>absurd h (by decide));refine ah (aI (by repeat array_get_dec) (λh=>?_) λ_=>az ?_)
   .simp at h
   .refine ah (aR (by repeat array_get_dec) rfl rfl (az (az (az ?_))));rw[dG];refine⟨B,by omega,?_,f,_,_,?_,.val,.val,by rw[G];rfl⟩
    .rw[j,<-abP];exact d.2
    .rw[j,<-abP];simpa[aC]using q
  |keep k=>
   simp only[aZ,W2,aa4]at d;have j:ay (p++[.keep k])=ay p+k:=by rw[gU,gS];simp[ay,tot]
   have G:((ay (p++[.keep k]):Nat):Int)=(ay p:Int)+(k:Nat):=by rw[j];simp
   have H:ay p+k<=t.length:=by have:=d.1;simp at this;omega
   have M:fX (.str t) (some (ay p:Int)) (some ((ay p:Int)+(k:Nat)))=some (.str ((t.drop (ay p)).take k)):=by rw[gP,jJ]
   have J:=nu (a:=f) (b:=(t.drop (ay p)).take k) (by simp[aC]at C ⊢;omega);refine cJ (fG rfl r rfl y) (ah (aI (by repeat array_get_dec) (zD ·) λ_=>?_));refine ah (aI (by repeat array_get_dec) (zD ·) λ_=>?_);refine ah (aR (by repeat array_get_dec) rfl rfl ?_);refine ah (aR (by repeat array_get_dec) rfl rfl (az (az (az ?_))));rw[dG];refine⟨B,by omega,?_,f++(t.drop (ay p)).take k,_,_,?_,.val,.val,by rw[G];rfl⟩
   .rw[j,<-abP];exact d.2
   .rw[j,<-abP];simpa[aC]using q
 .subst o;simp at g;subst g;have I:f=aC p t:=by simpa[aC]using q
  subst I;have N:=gW h;have L:cY .len [.str t]=some (.int (t.length:Nat)):=abC (by omega);have W:cop .eq (.int (ay p)) (.int (t.length:Nat))=some true:=by rw[tV,N];simp
  have P:fT [some (.val (aY p)),some (.val (.str t)),some (.val (.int (ay p))),some (.val (.str (aC p t))),a,b]=[some (.val (aY p)),some (.val (.str t)),some (.val (.int (ay p))),some (.val (.str (aC p t))),a,b]:=by
   show _ :: _ :: _ :: _ :: a.map Sl.eE :: [b.map Sl.eE]=_;rw[dh r,dh y];rfl
  refine ah (bS (v:=.str (aC p t)) (af:=[some (.val (aY p)),some (.val (.str t)),some (.val (.int (ay p))),some (.val (.str (aC p t))),a,b]) ?_ ⟨rfl,rfl⟩);rw[P];exact iB (b:=true) (aE rfl (by repeat array_get_dec) rfl) (λ_=>au rfl) λh=>absurd h (by decide)
def Ch:List Nat->List (List Pt)->Prop
 |_,[]=>True
 |t,c :: rs=>aZ c t=true/\Ch (aC c t) rs
noncomputable def cy(t:List Nat)(rs:List (List Pt)):List Nat:=rs.foldl (λs c=>aC c s) t
noncomputable def nV(T:List Tq)(rs:List (List Pt)):List Tq:=rs.foldl (λT c=>(told 0 c).map (sub T)) T
noncomputable def cQ(rs:List (List Pt)):Nat:=(rs.map tot).sum
def HE{c:List Pt}{t:List Nat}(h:aZ c t=true):aZ (lZ c) (aC c t)=true/\aC (lZ c) (aC c t)=t:=by
 have:=yj c t h;simp only[lZ];rw[qY,gG];exact this
def pB(c:List Pt):told 0 (lZ c)=told 0 (sw c):=by simp only[lZ];rw[dF]
def uW(n:Nat):told 0 [.keep n]=(List.range n).map Tq.at:=by simp[told,Pt.told]
def AX(t:List Nat)(p q:List (List Pt)):cy t (p++q)=cy (cy t p) q:=by simp[cy]
theorem AY(T:List Tq):∀(rs:List (List Pt)) (U:List Tq),(nV U rs).map (sub T)=nV (U.map (sub T)) rs
 |[],U=>rfl
 |c :: rs,U=>by
  show(nV ((told 0 c).map (sub U)) rs).map (sub T)=nV ((told 0 c).map (sub (U.map (sub T)))) rs;rw[AY T rs,Hx]
theorem sO{t:List Nat}:∀{p q:List (List Pt)},Ch t (p++q)↔Ch t p/\Ch (cy t p) q
 |[],q=>⟨λh=>⟨trivial,h⟩,λh=>h.2⟩
 |c :: p,q=>by
  show(aZ c t=true/\Ch (aC c t) (p++q))↔(aZ c t=true/\Ch (aC c t) p)/\Ch (cy (aC c t) p) q;rw[sO,and_assoc]
def uX{c:List Pt}{t:List Nat}(h:aZ c t=true):(told 0 c).length=(aC c t).length:=by rw[nG,yp h]
def QG{L:List Tq}{n:Nat}(h:L.length=n):(told 0 [.keep n]).map (sub L)=L:=by rw[uW,<-h];exact LQ L
def YE{c:List Pt}{t:List Nat}(h:aZ c t=true):(told 0 c).map (sub (told 0 [.keep t.length]))=told 0 c:=by
 rw[fD c,uW];refine Hy λj a=>?_;have:j<(aA (bf c)).length:=(List.getElem?_eq_some_iff.mp a).1;rw[<-iF,nF,<-gW h]at this;simp[this]
def HF(c:List Pt)(i:Nat):told i (sw (bE c))=told i (sw c):=by
 have:=aau (told i) (AO (lK c));rwa [dF,dF]at this
def tX(n:Nat):told 0 (lZ (bE [.keep n]))=told 0 [.keep n]:=by
 rw[pB,HF];rfl
def EK{t:List Nat}{p:List (List Pt)}{x:List Pt}(h:aZ x (cy t p)=true):(nV (told 0 [.keep (cy t p).length]) (p.map lZ).reverse).map (sub (told 0 (sw x)))=nV (told 0 [.keep (cy t (p++[x])).length]) ((p++[x]).map lZ).reverse:=by
 obtain⟨a,b⟩:=HE h;have c:cy t (p++[x])=aC x (cy t p):=by rw[AX];rfl
 rw[AY,aao,List.reverse_append,c];show _=nV ((told 0 (lZ x)).map (sub (told 0 [.keep (aC x (cy t p)).length]))) _;rw[YE a,<-pB,QG (by rw[uX a,b])];rfl
structure An(c:List Pt)(t:List Nat)(rs:List (List Pt)):Prop where
 CT:bE c=c
 fit:aZ c t=true
 dn:aC c t=cy t rs
 Jk:told 0 c=nV (told 0 [.keep t.length]) rs
 QD:told 0 (sw c)=nV (told 0 [.keep (cy t rs).length]) (rs.map lZ).reverse
 tt:tot c<=t.length+cQ rs
 ln:c.length<=tot c
def QH(t:List Nat):An (bE [.keep t.length]) t []:=by
 refine⟨lK _,by rw[qY];simp[aZ],by rw[gG];simp[aC,cy],by rw[dF];rfl,by rw[<-pB,tX];rfl,by rw[jn];simp[tot,Pt.n,cQ],jt (ki (jq _))⟩
section
variable(hs:F[aK]?=some fz)(hp:F[dO]?=some kM)(ht:F[b8]?=some (qg dO aK))(hm:F[dU]?=some vH)(hst:F[bX]?=some gE)(hf:F[cP]?=some (mJ bX))(hb:F[dw]?=some (nB aK))(ha:F[eB]?=some (qd aK))(AV:F[iy]?=some (mL eB dw cP aK dU b8))(hno:F[dR]?=some (lM cP))(hw:5000<w)
include hs hp ht hm hst hf hb ha AV hno hw
theorem yv(hat:F[i]?=some (j6 dR iy))(t:List Nat)(rs:List (List Pt))(hch:Ch t rs)(hB:t.length+cQ rs<=2000)(hL:∀c∈rs,c.length<=2000) :
  ∃c,run F w (n+4) i [.val (.int t.length),.val (.lst (rs.map aY))]=some (aY c,[])/\An c t rs:=by
 have q:=λfr=>fU (fr:=fr) (zq (F:=F) (w:=w) (n:=n) hst hf hno t.length (by omega));have o:Wp (exs (run F w (n+3)) w (j6 dR iy).body (eU (j6 dR iy) [.val (.int t.length),.val (.lst (rs.map aY))])) λg fr=>∃c,An c t rs/\g=.ret (aY c)/\outs 2 fr=[]:=by
  refine ah (aR (by (repeat (first|array_get_dec|exact q _))) rfl rfl ?_);refine ah (gQ (vs:=rs.map aY) (cO (cT rfl) rfl) ?_);refine ez (e:=aY) (λp l fr=>p++l=rs/\Ch (cy t p) l/\∃c a,An c t p/\vo a/\fr=[some (.val (.int t.length)),some (.val (.lst (rs.map aY))),some (.val (aY c)),a]) (λp x l fr ⟨b,j,c,a,d,AW,f⟩=>?_) (λp fr ⟨b,j,c,a,d,AW,f⟩=>?_) rs [] _ ⟨rfl,hch,_,none,QH t,.none,rfl⟩
  .subst f;have r:(p++[x])++l=rs:=by simpa using b
   have y:x∈rs:=by rw[<-b];simp
   have I:cQ rs=cQ p+tot x+cQ l:=by rw[<-b];simp[cQ];omega
   have z:=d.tt;have J:=d.ln;obtain⟨A,B,h⟩:=HC (F:=F) (w:=w) (n:=n) hs hp ht hm hst hf hb ha AV hw c x t d.fit (by rw[d.dn];exact j.1) (by omega) (by omega) (by omega) (hL x y);have C:=λfr=>call2 (fr:=fr) B;refine cJ (bind1 rfl AW) (ah (aR (by (repeat (first|array_get_dec|exact C _))) rfl rfl (az ?_)));rw[dG];refine⟨r,?_,A,_,⟨h.CT,h.fit,?_,?_,?_,?_,h.ln⟩,.val,rfl⟩
   .have:=j.2;simpa[cy]using this
   .rw[h.dn,d.dn];simp[cy]
   .rw[h.Jk,d.Jk];simp[nV]
   .rw[h.QD,d.QD];exact EK j.1
   .have:=h.tt;simp[cQ]at z ⊢;omega
  .subst f;simp at b;subst b;have G:fT [some (.val (.int t.length)),some (.val (.lst (p.map aY))),some (.val (aY c)),a]=[some (.val (.int t.length)),some (.val (.lst (p.map aY))),some (.val (aY c)),a]:=by
    show _ :: _ :: _ :: [a.map Sl.eE]=_;rw[dh AW];rfl
   refine ah (bS (v:=aY c) (af:=[some (.val (.int t.length)),some (.val (.lst (p.map aY))),some (.val (aY c)),a]) ?_ ⟨c,d,rfl,rfl⟩);rw[G];exact au rfl
 obtain⟨g,fr,e,c,d,rfl,H⟩:=o;refine⟨c,?_,d⟩;rw[run_eq hat rfl,e];simp only[AE];rw[show outs (j6 dR iy).np fr=[]from H]
end
end
noncomputable def scan:List Nat->List (List Pt)->List (List Nat)
 |t,[]=>[t]
 |t,c :: rs=>t :: scan (aC c t) rs
end Pv
namespace Pv
open Ev (deep big rep cut bU)
theorem sP:∀(a b:List At) (t:List Nat),dA (a++b) t=dA a (t.take (aA a).length)++dA b (t.drop (aA a).length)
 |[],b,t=>by simp[dA,aA]
 |.k :: a,b,t=>by
  simp only[aaS,dA,aA,aal,sP a b];cases t with
  |nil=>simp
  |cons c t=>simp
 |.d c :: a,b,t=>by
  simp only[aaS,dA,aA,aal,sP a b];cases t with
  |nil=>simp
  |cons c t=>simp
 |.p c :: a,b,t=>by simp only[aaS,dA,aA,sP a b]
section
variable{c:List Pt}
def yx(c:List Pt):ay c=(aA (bf c)).length:=by rw[<-iF,nF]
end
end Pv
namespace Pv
open Ev (D bV bR TY BI ME T E Es Eo It S Ss Fn big deep rep cut bU)
def Ul(n i:Nat):tA i (List.replicate n .k)=(List.range n).map λj=>Tq.at (i+j):=by
 have:=fD [.keep n] i;simp only[bf,Pt.bf,List.flatMap_cons,List.flatMap_nil,aaD]at this;rw[<-this];simp[told,Pt.told]
abbrev Row:=List Nat×List Pt
noncomputable def cF(r:Row):V:=.tup [.str r.1,aY r.2]
noncomputable def bx(rs:List Row):List (List Pt):=rs.map Prod.snd
def qi(a b:List Row):bx (a++b)=bx a++bx b:=aao
noncomputable def who(st:List V)(o:List Nat):Tq->V
 |.at i=>st.getD i .aD
 |.sg _=>.str o
noncomputable def yz(st:List V)(r:Row):List V:=(told 0 r.2).map (who st r.1)
noncomputable def ows(st:List V)(rs:List Row):List V:=rs.foldl yz st
def LW{c:List Pt}{i:Nat}(h:Tq.at i∈told 0 c):i<ay c:=by
 rw[fD]at h;obtain⟨j,rfl,a⟩:=(jK (bf c) 0 i).mp h;have:=(List.getElem?_eq_some_iff.mp a).1;rw[<-yx]at this;omega
theorem Jl:∀{a:List At},cA a=0->a=List.replicate (aA a).length .k
 |[],_=>rfl
 |.k :: a,h=>by
  simp only[aA,aal,aak];rw[<-Jl (a:=a) (by simpa[cA]using h)]
 |.d c :: a,h=>by simp[cA]at h
 |.p c :: a,h=>by simp[cA]at h
def Um{c:List Pt}(h:cst c=0):bf c=List.replicate (ay c) .k:=by
 rw[yx];exact Jl (by rw[<-qe];exact h)
def EL{c:List Pt}{st:List V}{o:List Nat}(h:cst c=0)(hl:st.length=ay c):yz st (o,c)=st:=by
 unfold yz;rw[fD,Um h,Ul,ab0];apply abh;intro i;by_cases a:i<st.length
 .rw[aaA,abo (by omega)];simp[who,List.getD,QJ a]
 .rw[aar (by simp;omega),aar (by omega)]
open Classical in
noncomputable def bQ(t:List Nat)(a c:List Pt):List Pt:=if h:∃X,Tn a c X t then h.choose else []
def uY(K:List Row)(r:Row):cQ (bx (K++[r]))=cQ (bx K)+tot r.2:=by simp[cQ,bx]
def nI(t:List Nat)(K:List Row)(r:Row):cy t (bx (K++[r]))=aC r.2 (cy t (bx K)):=by rw[qi,AX];rfl
def LX{t:List Nat}{K:List Row}{r:Row}:Ch t (bx (K++[r]))↔Ch t (bx K)/\aZ r.2 (cy t (bx K))=true:=by
 rw[qi,sO];exact⟨λh=>⟨h.1,h.2.1⟩,λh=>⟨h.1,h.2,trivial⟩⟩
end Pv
namespace Pv
open Ev (deep big rep cut bU E Es Eo It T S Ss Fn)
theorem Jm:∀(rs:List (List Pt)) (t:List Nat),(cy t rs).length<=t.length+cQ rs
 |[],t=>by simp[cy,cQ]
 |c :: rs,t=>by
  have d:=kL c t;have e:=Jm rs (aC c t);have a:cQ (c :: rs)=tot c+cQ rs:=by simp[cQ]
  have b:cy t (c :: rs)=cy (aC c t) rs:=rfl;rw[a,b];omega
structure jW(t:List Nat)(rs:List Row):Prop where
 ch:Ch t (bx rs)
 ln:∀r∈rs,r.2.length<=900
 tt:t.length+cQ (bx rs)<=900
theorem jW.at{t:List Nat}{rs p l:List Row}{r:Row}(h:jW t rs)(e:p++r :: l=rs):aZ r.2 (cy t (bx p))=true/\r.2.length<=900/\tot r.2<=900/\(cy t (bx p)).length<=900/\cQ (bx p)+tot r.2<=900:=by
 have a:=h.ch;have b:=h.tt;have d:=Jm (bx p) t;rw[<-e,qi]at a b;have c:cQ (bx p++bx (r :: l))=cQ (bx p)+(tot r.2+cQ (bx l)):=by simp[cQ,bx]
 rw[c]at b;exact⟨((sO.mp a).2).1,h.ln r (by rw[<-e];simp),by omega,by omega,by omega⟩
noncomputable def uZ(ju:Nat):S:=.iff (.cmp .lt (.bi .len (.cons (.v 2) .nil)) (.c (.int 7))) (.cons (.ret (.cl ju (.cons (.v 0) (.cons (.v 1) (.cons (.v 2) .nil))))) .nil) .nil
noncomputable def u0(qj:Nat):S:=.set 3 (.cl qj (.cons (.v 0) (.cons (.bin .add (.v 1) (.c (.int 61))) (.cons (.bin .sub (.bi .len (.cons (.v 2) .nil)) (.c (.int 3))) .nil))))
noncomputable def u5:S:=.set 4 (.fW (.cmp .gt (.v 3) (.c (.int 0))) (.tup (.cons (.tup (.cons (.c (.str [107,101,101,112])) (.cons (.v 3) .nil))) .nil)) (.tup .nil))
noncomputable def u6:S:=.set 5 (.bin .sub (.bin .sub (.bi .len (.cons (.v 2) .nil)) (.v 3)) (.c (.int 3)))
noncomputable def u7(ju:Nat):S:=.ret (.bin .add (.bin .add (.v 4) (.cl ju (.cons (.v 0) (.cons (.v 1) (.cons (.sl (.v 2) (.yes (.v 3)) (.yes (.bin .add (.v 3) (.c (.int 3))))) .nil))))) (.fW (.cmp .gt (.v 5) (.c (.int 0))) (.tup (.cons (.tup (.cons (.c (.str [107,101,101,112])) (.cons (.v 5) .nil))) .nil)) (.tup .nil)))
noncomputable def jw(qj:Nat)(ju:Nat):Fn:=⟨3,6,(.cons (.iff (.cmp .eq (.cl qj (.cons (.v 0) (.cons (.bin .add (.v 1) (.c (.int 60))) (.cons (.c (.int 5)) .nil)))) (.c (.int 0))) (.cons (.ret (.fW (.cmp .ne (.v 2) (.c (.str []))) (.tup (.cons (.tup (.cons (.c (.str [107,101,101,112])) (.cons (.bi .len (.cons (.v 2) .nil)) .nil))) .nil)) (.tup .nil))) .nil) .nil) (.cons (uZ ju) (.cons (u0 qj) (.cons u5 (.cons u6 (.cons (u7 ju) .nil))))))⟩
def Jo(ns:List Int)(k:Int)(x:List Nat)(b:Nat)(h:x.length<=b):(chg ns k x).length<=2*b+2/\tot (chg ns k x)<=3*b+3:=by
 have a:=pe ns k x (x.length+1);have c:=uU ns k x (x.length+1);simp only[chg];omega
def EM(a b:Nat):Pv.bW .add (.int (a:Int)) (.int (b:Int))=some (.int ((a+b:Nat):Int)):=by rw[cC];congr 2
def QI{a b:Nat}(h:b<=a):Pv.bW .sub (.int (a:Int)) (.int (b:Int))=some (.int ((a - b:Nat):Int)):=by rw[xO];congr 2;omega
def AZ{c o:List Pt}{t u:List Nat}(h:aZ c t=true)(h2:aZ o u=true):aZ (c++o) (t++u)=true/\aC (c++o) (t++u)=aC c t++aC o u:=by
 have a:(aA (bf c)).length=t.length:=by rw[<-yx,gW h]
 refine⟨?_,?_⟩
 .rw[iu,eX];rw[iu]at h h2;exact qZ h h2
 .rw[gH,kg,sP,a,<-gH,<-gH];simp
def q8(u:List Nat):aZ [.keep u.length] u=true/\aC [.keep u.length] u=u:=by simp[aZ,aC]
def Jp(i:Int):Ev.cG 70 i=true:=by simp[Ev.cG]
def drawn{ns:List Int}(k:Int)(m:Nat)(h:0<m):∃p:Nat,dg ns k (m:Int)=(p:Int)/\p<m:=by
 have a:=kJ ns k (many:=(m:Int)) (by omega);have b:=kK ns k (many:=(m:Int)) (by omega);exact⟨(dg ns k (m:Int)).toNat,by omega,by omega⟩
section
variable{F:List Fn}{w n c0 nW nX i:Nat}{ns:List Int}
def u9(hn:ns.length<=63)(hc:F[c0]?=some sA)(hd:F[nW]?=some (sC c0))(YF:F[nX]?=some (AJ nW))(hsm:F[i]?=some (jw nW nX))(a:Int)(t:List Nat)(ht:t.length<=400):∃c,run F w (n+7) i [.val (fZ ns),.val (.int a),.val (.str t)]=some (aY c,[])/\aZ c t=true/\c.length<=14/\tot c<=t.length+21/\((aC c t).length<=t.length+12\/(aC c t).length<=27):=by
 have l:=λ(k:Int) (m:Nat) (hm:0<m) fr=>fF (fr:=fr) (fS (F:=F) (w:=w) (n:=n+4) hc hd hn k (many:=(m:Int)) (by omega));have o:=λ(x:List Nat) (p:x.length<=400) fr=>fF (fr:=fr) (B8 (F:=F) (w:=w) (n:=n+3) hc hd hn YF a x (by omega));have d:cY .len [.str t]=some (.int (t.length:Nat)):=abC (by omega);have e:=l (a+60) 5 (by decide);by_cases f:dg ns (a+60) 5=0
 .by_cases r:t=[]
  .subst r;refine⟨[],bZ (fn:=jw nW nX) hsm rfl (ah (aI (b:=true) (aE rfl (bG (cz (aP rfl (au rfl) (aP rfl (bu (au rfl) (aX rfl) cC) (aP rfl (aX rfl) bz))) (e _)) (aX rfl) tV) (by show decide _=_;exact aaV f)) (λ_=>?_) λh=>absurd h (by decide))),rfl,by simp,by simp[tot],.inl (by simp[aC])⟩;exact ah (bS (iB (b:=false) (aE rfl (bG (au rfl) (aX rfl) gn) rfl) (zD ·) λ_=>ef aG BV) ⟨rfl,rfl⟩)
  .have k:=q8 t;refine⟨[.keep t.length],bZ (fn:=jw nW nX) hsm rfl (ah (aI (b:=true) (aE rfl (bG (cz (aP rfl (au rfl) (aP rfl (bu (au rfl) (aX rfl) cC) (aP rfl (aX rfl) bz))) (e _)) (aX rfl) tV) (by show decide _=_;exact aaV f)) (λ_=>?_) λh=>absurd h (by decide))),k.1,by simp,by simp[tot,Pt.n],.inl (by rw[k.2];omega)⟩;exact ah (bS (iB (b:=true) (aE rfl (bG (au rfl) (aX rfl) gn) (by show(!decide (t=[]))=true;simp[r])) (λ_=>ef (aB (ef (aB (aX rfl) (aB (fk (aB (au rfl) aG) d) aG)) gO) aG) nq) λh=>absurd h (by decide)) ⟨rfl,rfl⟩)
 .have first:∀{Q:Fl->Fr->Prop},Wp (exs (run F w (n+6)) w (.cons (uZ nX) (.cons (u0 nW) (.cons u5 (.cons u6 (.cons (u7 nX) .nil))))) [some (.val (fZ ns)),some (.val (.int a)),some (.val (.str t)),none,none,none]) Q->Wp (exs (run F w (n+6)) w (jw nW nX).body (eU (jw nW nX) [.val (fZ ns),.val (.int a),.val (.str t)])) Q:=λq=>
   ah (aI (b:=false) (aE rfl (bG (cz (aP rfl (au rfl) (aP rfl (bu (au rfl) (aX rfl) cC) (aP rfl (aX rfl) bz))) (e _)) (aX rfl) tV) (by show decide _=_;exact aav f)) (zD ·) λ_=>az q)
  by_cases h7:t.length<7
  .obtain⟨y,g⟩:=Jo ns a t 6 (by omega);have dl:=kL (chg ns a t) t;refine⟨chg ns a t,bZ (fn:=jw nW nX) hsm rfl (first (ah (aI (b:=true) (aE rfl (bG (fk (aB (au rfl) aG) d) (aX rfl) G8) (by show decide _=_;exact aaV (by omega))) (λ_=>?_) λh=>absurd h (by decide)))),AQ ns a t,by omega,by omega,.inr (by omega)⟩;exact ah (bS (cz (aP rfl (au rfl) (aP rfl (au rfl) (aP rfl (au rfl) bz))) (o t (by omega) _)) ⟨rfl,rfl⟩)
  .obtain⟨P,I,hP⟩:=drawn (ns:=ns) (a+61) (t.length - 3) (by omega);have A:=l (a+61) (t.length - 3) (by omega);rw[I]at A;have ml:((t.drop P).take 3).length=3:=by simp;omega
   obtain⟨y,g⟩:=Jo ns a ((t.drop P).take 3) 3 (by omega);have B:=AQ ns a ((t.drop P).take 3);have J:=kL (chg ns a ((t.drop P).take 3)) ((t.drop P).take 3);have C:=o ((t.drop P).take 3) (by omega);generalize chg ns a ((t.drop P).take 3)=m at y g B J C
   have p:∃H:List Pt,H.length<=1/\tot H=P/\aZ H (t.take P)=true/\aC H (t.take P)=t.take P/\∀fr:Fr,kF true fr 3=some (.int (P:Int))->kF false fr 3=some (.int (P:Int))->ev (run F w (n+6)) false (.fW (.cmp .gt (.v 3) (.c (.int 0))) (.tup (.cons (.tup (.cons (.c (.str [107,101,101,112])) (.cons (.v 3) .nil))) .nil)) (.tup .nil)) fr=.ok (aY H) fr:=by
    cases P with
    |zero=>exact⟨[],by simp,by simp[tot],by simp[aZ],by simp[aC],λfr h G=>iB (b:=false) (aE rfl (bG (au h) (aX rfl) xX) rfl) (zD ·) λ_=>ef aG BV⟩
    |succ P=>
     have k:=q8 (t.take (P+1));rw[show(t.take (P+1)).length=P+1 by simp;omega]at k;exact⟨[.keep (P+1)],by simp,by simp[tot,Pt.n],k.1,k.2,λfr h G=>iB (b:=true) (aE rfl (bG (au h) (aX rfl) xX) (by show decide _=_;exact aaV (by omega))) (λ_=>ef (aB (ef (aB (aX rfl) (aB (au G) aG)) gO) aG) nq) λh=>absurd h (by decide)⟩
   obtain⟨H,lH,K,L,M,N⟩:=p;have j:=q8 (t.drop (P+3));rw[show(t.drop (P+3)).length=t.length - P - 3 by simp;omega]at j;have A1:=AZ L B;have A2:=AZ A1.1 j.1;have W:t.take P++(t.drop P).take 3++t.drop (P+3)=t:=by rw[aaO,<-abP,acO,acO]
   rw[W]at A2;have s1:=QI (a:=t.length) (b:=3) (by omega);have s2:=QI (a:=t.length) (b:=P) (by omega);have s3:=QI (a:=t.length - P) (b:=3) (by omega);have X:fX (.str t) (some (P:Int)) (some ((P+3:Nat):Int))=some (.str ((t.drop P).take 3)):=by
    rw[gP];exact aau (λz=>some (V.str z)) (jJ t P 3)
   have Y:Pv.bW .add (aY H) (aY m)=some (aY (H++m)):=by
    show Pv.bW .add (.tup (H.map Pt.v)) (.tup (m.map Pt.v))=_;rw[qV (by simp;omega),<-aao];rfl
   have Z:Pv.bW .add (aY (H++m)) (.tup [.tup [.str [107,101,101,112],.int ((t.length - P - 3:Nat):Int)]])=some (aY (H++m++[.keep (t.length - P - 3)])):=by
    show Pv.bW .add (.tup ((H++m).map Pt.v)) (.tup [_])=_;rw[qV (by simp;omega)];show _=some (V.tup (((H++m)++[Pt.keep (t.length - P - 3)]).map Pt.v));rw[aao (l₂:=[Pt.keep (t.length - P - 3)])];rfl
   refine⟨H++m++[.keep (t.length - P - 3)],bZ (fn:=jw nW nX) hsm rfl (first ?_),A2.1,by simp;omega,by rw[ee,ee];simp[tot,Pt.n]at K g ⊢;omega,.inl (by rw[A2.2,A1.2,M,j.2];simp;omega)⟩;refine ah (aI (b:=false) (aE rfl (bG (fk (aB (au rfl) aG) d) (aX rfl) G8) (by show decide _=_;exact aav (by omega))) (zD ·) λ_=>az ?_);refine ah (aR (cz (aP rfl (au rfl) (aP rfl (bu (au rfl) (aX rfl) cC) (aP rfl (bu (fk (aB (au rfl) aG) d) (aX rfl) s1) bz))) (A _)) rfl rfl ?_);refine ah (aR (N _ rfl rfl) rfl rfl ?_);refine ah (aR (bu (bu (fk (aB (au rfl) aG) d) (au rfl) s2) (aX rfl) s3) rfl rfl ?_);exact ah (bS (bu (bu (au rfl) (cz (aP rfl (au rfl) (aP rfl (au rfl) (aP rfl (xU (au rfl) (jd (au rfl)) (jd (bu (au rfl) (aX rfl) (EM P 3))) X) bz))) (C _)) Y) (iB (b:=true) (aE rfl (bG (au rfl) (aX rfl) xX) (by show decide _=_;exact aaV (by omega))) (λ_=>ef (aB (ef (aB (aX rfl) (aB (au rfl) aG)) gO) aG) nq) λh=>absurd h (by decide)) Z) ⟨rfl,rfl⟩)
end
noncomputable def nY(dY:Nat):Fn:=⟨3,9,(.cons (.set 3 (.lst .nil)) (.cons (.set 4 (.lst .nil)) (.cons (.set 5 (.c (.int 0))) (.cons (.for (.one 6) (.seq (.v 2)) (.cons (.iff (.cmp .eq (.ix (.v 6) (.c (.int 0))) (.c (.str [112,117,116]))) (.cons (.exp (.me .extend (.v 3) (.cons (.comp (.v 1) (.one 8) (.seq (.ix (.v 6) (.c (.int 1)))) .no) .nil))) (.cons (.cnt) .nil)) .nil) (.cons (.set 7 (.sl (.v 0) (.yes (.v 5)) (.yes (.bin .add (.v 5) (.cl dY (.cons (.v 6) .nil)))))) (.cons (.set 5 (.bin .add (.v 5) (.cl dY (.cons (.v 6) .nil)))) (.cons (.iff (.cmp .eq (.ix (.v 6) (.c (.int 0))) (.c (.str [107,101,101,112]))) (.cons (.exp (.me .extend (.v 3) (.cons (.v 7) .nil))) .nil) (.cons (.exp (.me .extend (.v 4) (.cons (.v 7) .nil))) .nil)) .nil))))) (.cons (.ret (.tup (.cons (.v 3) (.cons (.v 4) .nil)))) .nil)))))⟩
noncomputable def sQ(yC:Nat)(jR:Nat):Ss:=(.cons (.set 2 (.cl yC (.cons (.v 6) (.cons (.v 2) .nil)))) (.cons (.set 7 (.cl jR (.cons (.v 3) (.cons (.v 5) (.cons (.v 6) .nil))))) (.cons (.set 3 (.ix (.v 7) (.c (.int 0)))) (.cons (.exp (.me .extend (.v 4) (.cons (.ix (.v 7) (.c (.int 1))) .nil))) .nil))))
noncomputable def HG(yC:Nat)(jR:Nat):Fn:=⟨2,9,(.cons (.set 2 (.v 0)) (.cons (.set 3 (.comp (.c (.aD)) (.one 8) (.seq (.v 0)) .no)) (.cons (.set 4 (.lst .nil)) (.cons (.for (.many [5,6]) (.seq (.v 1)) (sQ yC jR)) (.cons (.ret (.tup (.cons (.v 3) (.cons (.v 4) .nil)))) .nil)))))⟩
def LY(st:List V)(o:List Nat):∀(n k:Nat),k+n<=st.length->((List.range n).map λj=>Tq.at (k+j)).map (who st o)=(st.drop k).take n:=λn k h=>by
 apply abh;intro i;by_cases a:i<n
 .have:k+i<st.length:=by omega
  simp[a,who,List.getElem?_take,List.getElem?_drop,QJ this,List.getD]
 .rw[aar (by simp;omega),aar (by simp;omega)]
noncomputable def tw(st:List V)(o:List Nat)(p:List Pt):List V:=(told 0 p).map (who st o)
def YG(v:V):Prop:=v=.aD\/∃s,v=.str s
theorem Jq:∀{l:List V},(∀v∈l,YG v)->cU (dB (18+1)) l l=some true
 |[],_=>Az
 |v :: l,h=>by
  rw[xQ,Jq λx a=>h x (.tail _ a)];rcases h v (.head _)with rfl|⟨s,rfl⟩
  .rw[PJ];rfl
  .rw[xP];simp
noncomputable def bN{α:Type}(pu:List Nat->List α):List Pt->List α->List α
 |[],_=>[]
 |.put s :: c,st=>pu s++bN pu c st
 |.keep k :: c,st=>st.take k++bN pu c (st.drop k)
 |.drop s :: c,st=>bN pu c (st.drop s.length)
noncomputable def eL{α:Type}:List Pt->List α->List α
 |[],_=>[]
 |.put _ :: c,st=>eL c st
 |.keep k :: c,st=>eL c (st.drop k)
 |.drop s :: c,st=>st.take s.length++eL c (st.drop s.length)
theorem mQ{α:Type}{pu:List Nat->List α}(q:List Pt):∀(p:List Pt) (st:List α),bN pu (p++q) st=bN pu p st++bN pu q (st.drop (ay p))
 |[],st=>by simp[bN,ay,tot]
 |.put s :: p,st=>by simp only[aaS,bN,mQ q p,gT,aaO]
 |.keep k :: p,st=>by simp only[aaS,bN,mQ q p,gS,aaO,abP]
 |.drop s :: p,st=>by simp only[aaS,bN,mQ q p,iC,abP]
theorem qk{α:Type}(q:List Pt):∀(p:List Pt) (st:List α),eL (p++q) st=eL p st++eL q (st.drop (ay p))
 |[],st=>by simp[eL,ay,tot]
 |.put s :: p,st=>by simp only[aaS,eL,qk q p,gT]
 |.keep k :: p,st=>by simp only[aaS,eL,qk q p,gS,abP]
 |.drop s :: p,st=>by simp only[aaS,eL,qk q p,iC,aaO,abP]
theorem ql{α β:Type}{pu:List Nat->List α}(f:α->β):∀(c:List Pt) (st:List α),(bN pu c st).map f=bN (λs=>(pu s).map f) c (st.map f)
 |[],st=>rfl
 |.put s :: p,st=>by simp only[bN,aao,ql f p]
 |.keep k :: p,st=>by simp only[bN,aao,ql f p,List.map_take,List.map_drop]
 |.drop s :: p,st=>by simp only[bN,ql f p,List.map_drop]
theorem pF{α:Type}{pu:List Nat->List α}(hp:∀s,(pu s).length=s.length):∀(c:List Pt) (st:List α),(bN pu c st).length<=tot c
 |[],st=>by simp[bN]
 |.put s :: p,st=>by have:=pF hp p st;simp only[bN,aam,hp,bB,Pt.n];omega
 |.keep k :: p,st=>by have:=pF hp p (st.drop k);simp only[bN,aam,abA,bB,Pt.n];omega
 |.drop s :: p,st=>by have:=pF hp p (st.drop s.length);simp only[bN,bB,Pt.n];omega
theorem mR{α:Type}:∀(c:List Pt) (st:List α),(eL c st).length<=tot c
 |[],st=>by simp[eL]
 |.put s :: p,st=>by have:=mR p st;simp only[eL,bB,Pt.n];omega
 |.keep k :: p,st=>by have:=mR p (st.drop k);simp only[eL,bB,Pt.n];omega
 |.drop s :: p,st=>by have:=mR p (st.drop s.length);simp only[eL,aam,abA,bB,Pt.n];omega
theorem jx{α:Type}{pu:List Nat->List α}(hp:∀s,(pu s).length=s.length):∀(c:List Pt) (st:List α) (t:List Nat),st.length=t.length->(bN pu c st).length=(aC c t).length
 |[],st,t,h=>rfl
 |.put s :: p,st,t,h=>by simp only[bN,aC,aam,hp,jx hp p st t h]
 |.keep k :: p,st,t,h=>by simp only[bN,aC,aam,abA,h,jx hp p (st.drop k) (t.drop k) (by simp[h])]
 |.drop s :: p,st,t,h=>by simp only[bN,aC,jx hp p (st.drop s.length) (t.drop s.length) (by simp[h])]
noncomputable def cg{α:Type}(pu:List Nat->List Nat->List α):List Row->List α->List α
 |[],st=>st
 |r :: rs,st=>cg pu rs (bN (pu r.1) r.2 st)
noncomputable def eY{α:Type}(pu:List Nat->List Nat->List α):List Row->List α->List α
 |[],_=>[]
 |r :: rs,st=>eL r.2 st++eY pu rs (bN (pu r.1) r.2 st)
theorem q9{α:Type}{pu:List Nat->List Nat->List α}(r:Row):∀(p:List Row) (st:List α),cg pu (p++[r]) st=bN (pu r.1) r.2 (cg pu p st)
 |[],st=>rfl
 |q :: p,st=>q9 r p _
theorem yD{α:Type}{pu:List Nat->List Nat->List α}(r:Row):∀(p:List Row) (st:List α),eY pu (p++[r]) st=eY pu p st++eL r.2 (cg pu p st)
 |[],st=>by simp[eY,cg]
 |q :: p,st=>by simp only[aaS,eY,cg,yD r p,aaO]
theorem A3{α β:Type}{pu:List Nat->List Nat->List α}(f:α->β):∀(p:List Row) (st:List α),(cg pu p st).map f=cg (λo s=>(pu o s).map f) p (st.map f)
 |[],st=>rfl
 |q :: p,st=>by simp only[cg,A3 f p,ql f]
theorem mS{α:Type}{pu:List Nat->List Nat->List α}(hp:∀o s,(pu o s).length=s.length):∀(p:List Row) (st:List α) (t:List Nat),st.length=t.length->(cg pu p st).length=(cy t (bx p)).length
 |[],st,t,h=>h
 |r :: p,st,t,h=>mS hp p _ _ (jx (hp r.1) r.2 st t h)
theorem yE{α:Type}{pu:List Nat->List Nat->List α}:∀(p:List Row) (st:List α),(eY pu p st).length<=cQ (bx p)
 |[],st=>by simp[eY]
 |r :: p,st=>by
  have a:=mR r.2 st;have b:=yE (pu:=pu) p (bN (pu r.1) r.2 st);have c:cQ (bx (r :: p))=tot r.2+cQ (bx p):=by simp[cQ,bx]
  simp only[eY,aam];omega
abbrev Ow:=Option (List Nat)
noncomputable def Ow.v:Ow->V
 |none=>.aD
 |some s=>.str s
noncomputable def aW(o s:List Nat):List Ow:=s.map λ_=>some o
noncomputable def bw(t:List Nat):List Ow:=t.map λ_=>none
noncomputable def EN:Fn:=⟨1,4,(.cons (.set 1 (.comp (.v 2) (.one 2) (.seq (.v 0)) (.yes (.cmp .lT (.v 2) (.c (.aD)))))) (.cons (.ret (.comp (.tup (.cons (.v 3) (.cons (.me .count (.v 1) (.cons (.v 3) .nil)) .nil))) (.one 3) (.seq (.bi .kU (.cons (.v 1) .nil))) .no)) .nil))⟩
def Ci(a b:Nat):Pv.bW .add (.int (a:Int)) (.int (b:Int))=some (.int ((a+b:Nat):Int)):=by rw[cC];congr 2
section
variable{F:List Fn}{aK iw mP pC i w n:Nat}
noncomputable def qF(st:List Ow)(o:List Nat)(c p:List Pt)(x y:Option Sl):Fr:=[some (.val (.lst (st.map Ow.v))),some (.val (.str o)),some (.val (aY c)),some (.own ((bN (aW o) p st).map Ow.v)),some (.own ((eL p st).map Ow.v)),some (.val (.int (ay p:Nat))),x,y,none]
def HH(hs:F[aK]?=some fz)(hi:F[i]?=some (nY aK)){st:List Ow}{o:List Nat}{c:List Pt}{t:List Nat}(h:aZ c t=true)(hst:st.length=t.length)(b1:tot c<=900)(b2:t.length<=900) :
  run F w (n+6) i [.val (.lst (st.map Ow.v)),.val (.str o),.val (aY c)]=some (.tup [.lst ((bN (aW o) c st).map Ow.v),.lst ((eL c st).map Ow.v)],[]):=by
 have M:=gW h;have I:∀s:List Nat,(aW o s).length=s.length:=λs=>by simp[aW]
 refine bZ hi rfl ?_;refine ah (gz (l:=[]) (jc aG j3) rfl rfl ?_);refine ah (gz (l:=[]) (jc aG j3) rfl rfl ?_);refine ah (aR (aX rfl) rfl rfl ?_);refine ah (gQ (vs:=c.map Pt.v) (cO (cT rfl) rfl) ?_);refine ez (e:=Pt.v) (λp l fr=>p++l=c/\∃x y,vo x/\vo y/\fr=qF st o c p x y) (λp q l fr ⟨a,x,y,z,g,f⟩=>?_) (λp fr ⟨a,x,y,z,g,f⟩=>?_) c [] _ ⟨rfl,none,none,.none,.none,rfl⟩
 .subst f;have r:(p++[q])++l=c:=by simpa using a
  have N:ay p+(ay [q]+ay l)=ay c:=by rw[<-r,gU,gU];omega
  have H:tot p+(q.n+tot l)=tot c:=by rw[<-a,ee,bB]
  have P:tot (p++[q])=tot p+q.n:=by rw[ee];simp[tot]
  have lt:=pF I p st;have Q:=mR p st;have sz:=λfr=>fU (fr:=fr) (jm (F:=F) (i:=aK) (w:=w) (n:=n+4) hs q (by omega));have A:=mQ (pu:=aW o) [q] p st;have B:=qk [q] p st;have C:=gU p [q];refine cJ (af:=qF st o c p (some (.val q.v)) y) (bind1 rfl z) ?_;cases q with
  |put s=>
   have j:ay (p++[.put s])=ay p:=by rw[C];simp[ay,tot,cL]
   have J:=cB (x:=s.map λ_=>V.str o) (bH (by simp[Pt.n]at H ⊢;omega));have K:cZ (jz (run F w (n+5)) (.v 1) (.one 8) .no (qF st o c p (some (.val (Pt.put s).v)) y)) (s.map λd=>V.str [d])=some (s.map λ_=>V.str o):=fy (λd=>V.str [d]) (λ_=>V.str o) s λd _=>ig rfl (au rfl);refine ah (aI (b:=true) (aE rfl (bG (fC (au rfl) (aX rfl) rfl) (aX rfl) gA) rfl) (λ_=>?_) λh=>absurd h (by decide));refine ah (fc (qb rfl rfl (aB (eW (cO (fC (au rfl) (aX rfl) rfl) rfl) rfl K J) aG) (kc (by simp[Pt.n]at H ⊢;omega))) ?_);refine ah ⟨_,_,Qg,?_⟩;show(p++[Pt.put s])++l=c/\∃x y,vo x/\vo y/\_=qF st o c (p++[Pt.put s]) x y;refine⟨r,some (.val (Pt.put s).v),y,.val,g,?_⟩;unfold qF;rw[A,B,j];simp[bN,eL,aW,Ow.v]
  |keep k=>
   have j:ay (p++[.keep k])=ay p+k:=by rw[C];simp[ay,tot,cL,Pt.n]
   have G:fX (.lst (st.map Ow.v)) (some (ay p:Int)) (some ((ay p+k:Nat):Int))=some (.lst (((st.drop (ay p)).take k).map Ow.v)):=by
    have e:cut (st.map Ow.v) (some (ay p:Int)) (some ((ay p+k:Nat):Int))=((st.map Ow.v).drop (ay p)).take k:=jJ _ (ay p) k;show dD (cut (st.map Ow.v) _ _)=_;rw[e,<-List.map_drop,<-List.map_take];exact cB (bH (by simp;omega))
   refine ah (aI (b:=false) (aE rfl (bG (fC (au rfl) (aX rfl) rfl) (aX rfl) gA) rfl) (zD ·) λ_=>az ?_);refine ah (aR (aq:=qF st o c p (some (.val (Pt.keep k).v)) (some (.val (.lst (((st.drop (ay p)).take k).map Ow.v))))) (xU (au rfl) (jd (au rfl)) (jd (bu (au rfl) (cz (aP rfl (au rfl) bz) (sz _)) (Ci (ay p) k))) G) rfl (gD rfl g) ?_);refine ah (aR (bu (au rfl) (cz (aP rfl (au rfl) bz) (sz _)) (Ci (ay p) k)) rfl rfl ?_);refine ah (aI (b:=true) (aE rfl (bG (fC (au rfl) (aX rfl) rfl) (aX rfl) gA) rfl) (λ_=>?_) λh=>absurd h (by decide));refine ah (fc (qb rfl rfl (aB (au rfl) aG) (kc (by simp;omega))) (az (az ?_)));rw[dG];refine⟨r,some (.val (Pt.keep k).v),some (.val (.lst (((st.drop (ay p)).take k).map Ow.v))),.val,.val,?_⟩;unfold qF;rw[A,B,j,aao];simp only[bN,eL,aaD];rfl
  |drop s=>
   have j:ay (p++[.drop s])=ay p+s.length:=by rw[C];simp[ay,tot,cL,Pt.n]
   have G:fX (.lst (st.map Ow.v)) (some (ay p:Int)) (some ((ay p+s.length:Nat):Int))=some (.lst (((st.drop (ay p)).take s.length).map Ow.v)):=by
    have e:cut (st.map Ow.v) (some (ay p:Int)) (some ((ay p+s.length:Nat):Int))=((st.map Ow.v).drop (ay p)).take s.length:=jJ _ (ay p) s.length;show dD (cut (st.map Ow.v) _ _)=_;rw[e,<-List.map_drop,<-List.map_take];exact cB (bH (by simp;omega))
   refine ah (aI (b:=false) (aE rfl (bG (fC (au rfl) (aX rfl) rfl) (aX rfl) gA) rfl) (zD ·) λ_=>az ?_);refine ah (aR (aq:=qF st o c p (some (.val (Pt.drop s).v)) (some (.val (.lst (((st.drop (ay p)).take s.length).map Ow.v))))) (xU (au rfl) (jd (au rfl)) (jd (bu (au rfl) (cz (aP rfl (au rfl) bz) (sz _)) (Ci (ay p) s.length))) G) rfl (gD rfl g) ?_);refine ah (aR (bu (au rfl) (cz (aP rfl (au rfl) bz) (sz _)) (Ci (ay p) s.length)) rfl rfl ?_);refine ah (aI (b:=false) (aE rfl (bG (fC (au rfl) (aX rfl) rfl) (aX rfl) gA) rfl) (zD ·) λ_=>?_);refine ah (fc (qb rfl rfl (aB (au rfl) aG) (kc (by simp;omega))) (az (az ?_)));rw[dG];refine⟨r,some (.val (Pt.drop s).v),some (.val (.lst (((st.drop (ay p)).take s.length).map Ow.v))),.val,.val,?_⟩;unfold qF;rw[A,B,j,aao];simp only[bN,eL,aaD,aao,aco];rfl
 .subst f;rw[aaD]at a;subst a;have L:fT (qF st o p p x y)=[some (.val (.lst (st.map Ow.v))),some (.val (.str o)),some (.val (aY p)),some (.val (.lst ((bN (aW o) p st).map Ow.v))),some (.val (.lst ((eL p st).map Ow.v))),some (.val (.int (ay p:Nat))),x,y,none]:=by
   show [_,_,_,_,_,_,x.map Sl.eE,y.map Sl.eE,_]=_;rw[dh z,dh g];rfl
  refine ah (bS (af:=[some (.val (.lst (st.map Ow.v))),some (.val (.str o)),some (.val (aY p)),some (.val (.lst ((bN (aW o) p st).map Ow.v))),some (.val (.lst ((eL p st).map Ow.v))),some (.val (.int (ay p:Nat))),x,y,none]) ?_ ⟨rfl,rfl⟩);rw[L];exact ef (aB (au rfl) (aB (au rfl) aG)) gO
noncomputable def yF(t:List Nat)(rs p:List Row)(x y z:Option Sl):Fr:=[some (.val (.str t)),some (.val (.lst (rs.map cF))),some (.val (.str (cy t (bx p)))),some (.val (.lst ((cg aW p (bw t)).map Ow.v))),some (.own ((eY aW p (bw t)).map Ow.v)),x,y,z,none]
variable(hs:F[aK]?=some fz)(hf:F[iw]?=some (yk aK))(hd:F[mP]?=some (EC iw))(ho:F[pC]?=some (nY aK))(hi:F[i]?=some (HG mP pC))
include hs hf hd ho
theorem LZ{t:List Nat}{rs p:List Row}{r:Row}{x y z:Option Sl}{Q:Fl->Fr->Prop}(h1:aZ r.2 (cy t (bx p))=true)(h2:r.2.length<=900)(h3:tot r.2<=900)(h4:(cy t (bx p)).length<=900)(h5:cQ (bx p)+tot r.2<=900)(hx:vo x)(hy:vo y)(hz:vo z)
  (q:∀x y z,vo x->vo y->vo z->Q .nx (yF t rs (p++[r]) x y z)):Wp (turnF (run F w (n+6)) w (.many [5,6]) (sQ mP pC) (cF r) (yF t rs p x y z)) Q:=by
 have D:=λfr=>call2 (fr:=fr) (yl (F:=F) (aK:=aK) (iw:=iw) (i:=mP) (w:=w) (n:=n+3) hs hf hd r.2 (cy t (bx p)) (by omega) (by omega) (by omega) h1);have a:=mS (pu:=aW) (λo s=>by simp[aW]) p (bw t) t (by simp[bw]);have gl:=yE (pu:=aW) p (bw t);have Zm:=mR r.2 (cg aW p (bw t));have ro:=λfr=>fF (fr:=fr) (HH (w:=w) (n:=n) (o:=r.1) hs ho h1 a (by omega) h4);refine cJ (af:=yF t rs p (some (.val (.str r.1))) (some (.val (aY r.2))) z) (fG rfl hx rfl hy) ?_;refine ah (aR (cz (aP rfl (au rfl) (aP rfl (au rfl) bz)) (D _)) rfl rfl ?_);refine ah (aR (cz (aP rfl (au rfl) (aP rfl (au rfl) (aP rfl (au rfl) bz))) (ro _)) rfl (gD rfl hz) ?_);refine ah (aR (fC (au rfl) (aX rfl) rfl) rfl rfl ?_);refine ah (fc (qb rfl rfl (aB (fC (au rfl) (aX rfl) rfl) aG) (kc (by simp;omega))) (az ?_));have:=q (some (.val (.str r.1))) (some (.val (aY r.2))) _ .val .val (.val (v:=.tup [.lst ((bN (aW r.1) r.2 (cg aW p (bw t))).map Ow.v),.lst ((eL r.2 (cg aW p (bw t))).map Ow.v)]));unfold yF at this;rw[nI,q9,yD,aao]at this;exact this
include hi
theorem Cj{t:List Nat}{rs:List Row}(R:jW t rs):run F w (n+7) i [.val (.str t),.val (.lst (rs.map cF))]=some (.tup [.lst ((cg aW rs (bw t)).map Ow.v),.lst ((eY aW rs (bw t)).map Ow.v)],[]):=by
 have H:=R.tt;have j:=cB (x:=t.map λ_=>V.aD) (bH (by simp;omega));refine bZ hi rfl ?_;refine ah (aR (au rfl) rfl rfl ?_);refine ah (aR (eW (cO (cT rfl) rfl) rfl (fy (λd=>V.str [d]) (λ_=>V.aD) t λd _=>ig rfl (aX rfl)) j) rfl rfl ?_);refine ah (gz (l:=[]) (jc aG j3) rfl rfl ?_);refine ah (gQ (vs:=rs.map cF) (cO (cT rfl) rfl) ?_);refine ez (e:=cF) (λp l h=>p++l=rs/\∃x y z,vo x/\vo y/\vo z/\h=yF t rs p x y z) (λp r l h ⟨a,x,y,z,c,f,g,b⟩=>?_) (λp h ⟨a,x,y,z,c,f,g,b⟩=>?_) rs [] _ ⟨rfl,none,none,none,.none,.none,.none,by unfold yF;simp[cg,eY,bw,Ow.v,cy,bx];rfl⟩
 .subst b;obtain⟨o,q,A,B,C⟩:=R.at a;refine LZ hs hf hd ho o q A B C c f g λx y z c f g=>?_;rw[dG];exact⟨by simpa using a,x,y,z,c,f,g,rfl⟩
 .subst b;rw[aaD]at a;subst a;have G:fT (yF t p p x y z)=[some (.val (.str t)),some (.val (.lst (p.map cF))),some (.val (.str (cy t (bx p)))),some (.val (.lst ((cg aW p (bw t)).map Ow.v))),some (.val (.lst ((eY aW p (bw t)).map Ow.v))),x,y,z,none]:=by
   show [_,_,_,_,_,x.map Sl.eE,y.map Sl.eE,z.map Sl.eE,_]=_;rw[dh c,dh f,dh g];rfl
  refine ah (bS (af:=[some (.val (.str t)),some (.val (.lst (p.map cF))),some (.val (.str (cy t (bx p)))),some (.val (.lst ((cg aW p (bw t)).map Ow.v))),some (.val (.lst ((eY aW p (bw t)).map Ow.v))),x,y,z,none]) ?_ ⟨rfl,rfl⟩);rw[G];exact ef (aB (au rfl) (aB (au rfl) aG)) gO
end
end Pv
namespace Pv
open Ev (deep big rep cut bU E Es Eo It T S Ss Fn br dd)
noncomputable def aV(l:List Ow):List (List Nat):=l.filterMap id
theorem yG:∀l:List Ow,(l.filter Option.isSome).map Ow.v=(aV l).map V.str
 |[]=>rfl
 |none :: l=>by simpa[aV]using yG l
 |some s :: l=>by have:=yG l;simp[aV,Ow.v]at this ⊢;exact this
def L0(l:List Ow):(aV l).length<=l.length:=List.length_filterMap_le _ _
theorem ri(s:List Nat):∀l:List Ow,cnt (.str s) (l.map Ow.v)=some ((aV l).count s)
 |[]=>rfl
 |none :: l=>by
  have:=ri s l;simp only[aai,cnt,Ow.v,this];rw[show dB deep .aD (.str s)=some false from PK];rfl
 |some o :: l=>by
  have:=ri s l;simp only[aai,cnt,Ow.v,this];rw[show dB deep (.str o) (.str s)=some (decide (o=s))from xP];show some (if decide (o=s)=true then _ else _)=_;rw[show aV (some o :: l)=o :: aV l from rfl,List.count_cons];by_cases h:o=s<;>simp[h]
theorem yH(x:List Nat):∀l,(Ev.m9 x l).length=l.length+1
 |[]=>rfl
 |y :: l=>by
  unfold Ev.m9;split
  .rfl
  .simp[yH x l]
theorem lQ:∀l,(br l).length=l.length
 |[]=>rfl
 |x :: l=>by unfold br;rw[yH,lQ l];rfl
noncomputable def QK(l:List (List Nat))(s:List Nat):V:=.tup [.str s,.int ((l.count s:Nat):Int)]
def strs_map(l:List (List Nat)):strsOf (l.map V.str)=some l:=by simpa using nA id l
def cnt_strs(s:List Nat)(l:List (List Nat)):cnt (.str s) (l.map V.str)=some (l.count s):=by
 have:=ri s (l.map some);rw[ab0]at this;have e:aV (l.map some)=l:=by unfold aV;induction l<;>simp_all
 rw[e]at this;exact this
section
variable{F:List Fn}{i w n:Nat}
def zu(hi:F[i]?=some EN){l:List Ow}(hl:l.length<=2000)(hd:(dd (aV l)).length<64):run F w (n+1) i [.val (.lst (l.map Ow.v))]=some (.lst ((br (dd (aV l))).map (QK (aV l))),[]):=by
 have j:=L0 l;have o:(br (dd (aV l))).length=(dd (aV l)).length:=lQ _;have b:cZ (jz (run F w n) (.v 2) (.one 2) (.yes (.cmp .lT (.v 2) (.c (.aD)))) [some (.val (.lst (l.map Ow.v))),none,none,none]) (l.map Ow.v)=some ((aV l).map V.str):=by
  rw[<-yG];refine fM Ow.v Option.isSome Ow.v l λa _=>?_;cases a with
  |none=>exact gR (v:=.aD) (cI:=[]) rfl (aE rfl (bG (au rfl) (aX rfl) G2) rfl) λh=>absurd h (by decide)
  |some s=>exact gR rfl (aE rfl (bG (au rfl) (aX rfl) G3) rfl) λ_=>au rfl
 have d:=cB (x:=(aV l).map V.str) (bH (by simp;omega));have e:=cB (x:=(br (dd (aV l))).map V.str) (bH (by simp;omega));have f:=cB (x:=(br (dd (aV l))).map (QK (aV l))) (bH (by simp;omega));have g:cY .kU [.lst ((aV l).map V.str)]=some (.lst ((br (dd (aV l))).map V.str)):=by
  show((jH (.lst ((aV l).map V.str))).bind strsOf).bind _=_;rw[pZ,Option.bind_some,strs_map,Option.bind_some,LV ⟨by omega,hd⟩,e]
 refine bZ hi rfl ?_;refine ah (aR (eW (cO (cT rfl) rfl) rfl b d) rfl rfl ?_);refine ah (bS (eW (cO (fk (aB (au rfl) aG) g) rfl) rfl (fy V.str (QK (aV l)) _ λs _=>ig rfl (ef (aB (au rfl) (aB (vF rfl (au rfl) (aB (au rfl) aG) ?_) aG)) gO)) f) ⟨rfl,rfl⟩);show((jH (.lst ((aV l).map V.str))).bind (cnt (.str s))).map _=_;rw[pZ,Option.bind_some,cnt_strs];rfl
end
abbrev K3:List (List Nat):=[[97,110,110],[98,111],[99]]
noncomputable def iz:List (List (List Nat)):=[[]]++K3.map (λa=>[a])++(K3.flatMap λa=>(K3.filter (·≠a)).flatMap λb=>[a,b] :: ((K3.filter λc=>c≠a/\c≠b).map λc=>[a,b,c]))
def QL:∀a∈iz,∀k∈K3,(if k∈a then a else a++[k])∈iz:=by decide
def pG:∀a∈iz,br a=K3.filter (·∈a)/\a.length<=3:=by decide
theorem pH:∀(l a:List (List Nat)),a∈iz->(∀k∈l,k∈K3)->l.foldl (λa k=>if k∈a then a else a++[k]) a∈iz
 |[],a,h,_=>h
 |k :: l,a,h,hl=>pH l _ (QL a h k (hl k (by simp))) λx b=>hl x (by simp[b])
theorem yI{x:List Nat}:∀(l a:List (List Nat)),x∈l.foldl (λa k=>if k∈a then a else a++[k]) a↔x∈a\/x∈l
 |[],a=>by simp
 |k :: l,a=>by
  rw[aaL,yI l];by_cases h:k∈a
  .rw[LV h,acV];constructor
   .rintro(q|q)<;>simp[q]
   .rintro(q|rfl|q)
    .exact .inl q
    .exact .inl h
    .exact .inr q
  .rw[aaj h,List.mem_append,aaT,acV];constructor
   .rintro((q|q)|q)<;>simp[q]
   .rintro(q|q|q)<;>simp[q]
def Jr(l:List (List Nat)):dd l=l.foldl (λa k=>if k∈a then a else a++[k]) []:=by
 unfold dd
 congr 1
 funext a k
 by_cases h:k∈a
 .rw[LV h,LV h]
 .rw[aaj h,aaj h]
def Uo{l:List (List Nat)}(h:∀k∈l,k∈K3):br (dd l)=K3.filter (λs=>decide (s∈l))/\(dd l).length<=3:=by
 have a:dd l∈iz:=by rw[Jr];exact pH l [] (by decide) h
 obtain⟨b,c⟩:=pG _ a;refine⟨b.trans ?_,c⟩;apply List.filter_congr;intro x _;have:=yI (x:=x) l [];simp only[List.not_mem_nil,false_or]at this;rw[<-Jr]at this;exact decide_eq_decide.mpr this
def EO(n:Nat)(a b:Ow):dB (n+1) a.v b.v=some (decide (a=b)):=by
 cases a<;>cases b<;>simp[Ow.v]
end Pv
namespace Lw
noncomputable abbrev f0:Ev.Fn:=⟨1,1,(.cons (.iff (.cmp .eq (.ix (.v 0) (.c (.int 0))) (.c (.str [107,101,101,112]))) (.cons (.ret (.ix (.v 0) (.c (.int 1)))) .nil) .nil) (.cons (.ret (.bi .len (.cons (.ix (.v 0) (.c (.int 1))) .nil))) .nil))⟩
noncomputable abbrev f1:Ev.Fn:=⟨1,2,(.cons (.ret (.bi .sum (.cons (.comp (.cl 0 (.cons (.v 1) .nil)) (.one 1) (.seq (.v 0)) (.yes (.cmp .ne (.ix (.v 1) (.c (.int 0))) (.c (.str [112,117,116]))))) .nil))) .nil)⟩
noncomputable abbrev f2:Ev.Fn:=⟨1,2,(.cons (.ret (.bi .sum (.cons (.comp (.cl 0 (.cons (.v 1) .nil)) (.one 1) (.seq (.v 0)) (.yes (.cmp .ne (.ix (.v 1) (.c (.int 0))) (.c (.str [100,114,111,112]))))) .nil))) .nil)⟩
noncomputable abbrev f3:Ev.Fn:=⟨1,7,(.cons (.set 1 (.lst .nil)) (.cons (.set 2 (.c (.int 0))) (.cons (.set 3 (.c (.str []))) (.cons (.set 4 (.c (.str []))) (.cons (.for (.many [5,6]) (.seq (.v 0)) (.cons (.iff (.cmp .eq (.v 5) (.c (.str [100,114,111,112]))) (.cons (.set 3 (.bin .add (.v 3) (.v 6))) .nil) (.cons (.iff (.cmp .eq (.v 5) (.c (.str [112,117,116]))) (.cons (.set 4 (.bin .add (.v 4) (.v 6))) .nil) (.cons (.iff (.cmp .gt (.v 6) (.c (.int 0))) (.cons (.iff (.orr (.cmp .ne (.v 3) (.c (.str []))) (.cmp .ne (.v 4) (.c (.str [])))) (.cons (.exp (.me .extend (.v 1) (.cons (.cl 4 (.cons (.v 2) (.cons (.v 3) (.cons (.v 4) .nil)))) .nil))) (.cons (.set 2 (.c (.int 0))) (.cons (.set 3 (.c (.str []))) (.cons (.set 4 (.c (.str []))) .nil)))) .nil) (.cons (.set 2 (.bin .add (.v 2) (.v 6))) .nil)) .nil) .nil)) .nil)) .nil)) (.cons (.exp (.me .extend (.v 1) (.cons (.cl 4 (.cons (.v 2) (.cons (.v 3) (.cons (.v 4) .nil)))) .nil))) (.cons (.ret (.jT (.v 1))) .nil)))))))⟩
noncomputable abbrev f4:Ev.Fn:=⟨3,4,(.cons (.set 3 (.lst .nil)) (.cons (.iff (.cmp .gt (.v 0) (.c (.int 0))) (.cons (.exp (.me .append (.v 3) (.cons (.tup (.cons (.c (.str [107,101,101,112])) (.cons (.v 0) .nil))) .nil))) .nil) .nil) (.cons (.iff (.cmp .ne (.v 1) (.c (.str []))) (.cons (.exp (.me .append (.v 3) (.cons (.tup (.cons (.c (.str [100,114,111,112])) (.cons (.v 1) .nil))) .nil))) .nil) .nil) (.cons (.iff (.cmp .ne (.v 2) (.c (.str []))) (.cons (.exp (.me .append (.v 3) (.cons (.tup (.cons (.c (.str [112,117,116])) (.cons (.v 2) .nil))) .nil))) .nil) .nil) (.cons (.ret (.v 3)) .nil)))))⟩
noncomputable abbrev f5:Ev.Fn:=⟨2,4,(.cons (.set 2 (.c (.int 0))) (.cons (.for (.one 3) (.seq (.v 0)) (.cons (.iff (.an (.cmp .eq (.ix (.v 3) (.c (.int 0))) (.c (.str [100,114,111,112]))) (.cmp .ne (.sl (.v 1) (.yes (.v 2)) (.yes (.bin .add (.v 2) (.cl 0 (.cons (.v 3) .nil))))) (.ix (.v 3) (.c (.int 1))))) (.cons (.ret (.c (.bl false))) .nil) .nil) (.cons (.iff (.cmp .ne (.ix (.v 3) (.c (.int 0))) (.c (.str [112,117,116]))) (.cons (.set 2 (.bin .add (.v 2) (.cl 0 (.cons (.v 3) .nil)))) .nil) .nil) .nil))) (.cons (.ret (.cmp .eq (.v 2) (.bi .len (.cons (.v 1) .nil)))) .nil)))⟩
noncomputable abbrev f6:Ev.Fn:=⟨2,6,(.cons (.iff (.nt (.cl 5 (.cons (.v 0) (.cons (.v 1) .nil)))) (.cons (.gp 0) .nil) .nil) (.cons (.set 2 (.lst .nil)) (.cons (.set 3 (.c (.int 0))) (.cons (.for (.many [4,5]) (.seq (.v 0)) (.cons (.iff (.cmp .eq (.v 4) (.c (.str [112,117,116]))) (.cons (.exp (.me .append (.v 2) (.cons (.v 5) .nil))) .nil) (.cons (.iff (.cmp .eq (.v 4) (.c (.str [100,114,111,112]))) (.cons (.set 3 (.bin .add (.v 3) (.bi .len (.cons (.v 5) .nil)))) .nil) (.cons (.exp (.me .append (.v 2) (.cons (.sl (.v 1) (.yes (.v 3)) (.yes (.bin .add (.v 3) (.v 5)))) .nil))) (.cons (.set 3 (.bin .add (.v 3) (.v 5))) .nil))) .nil)) .nil)) (.cons (.ret (.me .join (.c (.str [])) (.cons (.v 2) .nil))) .nil)))))⟩
noncomputable abbrev f7:Ev.Fn:=⟨1,1,(.cons (.ret (.cl 3 (.cons (.tup (.cons (.tup (.cons (.c (.str [107,101,101,112])) (.cons (.v 0) .nil))) .nil)) .nil))) .nil)⟩
noncomputable abbrev f8:Ev.Fn:=⟨2,6,(.cons (.iff (.cmp .ne (.cl 2 (.cons (.v 0) .nil)) (.cl 1 (.cons (.v 1) .nil))) (.cons (.gp 0) .nil) .nil) (.cons (.set 2 (.jF (.rev (.cl 3 (.cons (.v 0) .nil))))) (.cons (.set 3 (.jF (.rev (.cl 3 (.cons (.v 1) .nil))))) (.cons (.set 4 (.lst .nil)) (.cons (.qt (.orr (.v 2) (.v 3)) (.cons (.iff (.an (.v 2) (.cmp .eq (.ix (.ix (.v 2) (.neg (.c (.int 1)))) (.c (.int 0))) (.c (.str [100,114,111,112])))) (.cons (.exp (.me .append (.v 4) (.cons (.me .pop (.v 2) .nil) .nil))) .nil) (.cons (.iff (.an (.v 3) (.cmp .eq (.ix (.ix (.v 3) (.neg (.c (.int 1)))) (.c (.int 0))) (.c (.str [112,117,116])))) (.cons (.exp (.me .append (.v 4) (.cons (.me .pop (.v 3) .nil) .nil))) .nil) (.cons (.set 5 (.bi .min (.cons (.cl 0 (.cons (.ix (.v 2) (.neg (.c (.int 1)))) .nil)) (.cons (.cl 0 (.cons (.ix (.v 3) (.neg (.c (.int 1)))) .nil)) .nil)))) (.cons (.exp (.me .extend (.v 4) (.cons (.cl 10 (.cons (.cl 11 (.cons (.v 2) (.cons (.v 5) .nil))) (.cons (.cl 11 (.cons (.v 3) (.cons (.v 5) .nil))) .nil))) .nil))) .nil))) .nil)) .nil)) (.cons (.ret (.cl 3 (.cons (.jT (.v 4)) .nil))) .nil))))))⟩
noncomputable abbrev f9:Ev.Fn:=⟨2,4,(.cons (.set 2 (.cl 7 (.cons (.v 0) .nil))) (.cons (.for (.one 3) (.seq (.v 1)) (.cons (.set 2 (.cl 8 (.cons (.v 2) (.cons (.v 3) .nil)))) .nil)) (.cons (.ret (.v 2)) .nil)))⟩
noncomputable abbrev Dc:Ev.Fn:=⟨2,2,(.cons (.iff (.cmp .eq (.ix (.v 1) (.c (.int 0))) (.c (.str [107,101,101,112]))) (.cons (.ret (.lst (.cons (.v 0) .nil))) .nil) .nil) (.cons (.iff (.cmp .eq (.ix (.v 0) (.c (.int 0))) (.c (.str [107,101,101,112]))) (.cons (.ret (.lst (.cons (.v 1) .nil))) .nil) .nil) (.cons (.iff (.cmp .ne (.ix (.v 0) (.c (.int 1))) (.ix (.v 1) (.c (.int 1)))) (.cons (.gp 0) .nil) .nil) (.cons (.ret (.lst .nil)) .nil))))⟩
noncomputable abbrev QM:Ev.Fn:=⟨2,3,(.cons (.set 2 (.cl 12 (.cons (.me .pop (.v 0) .nil) (.cons (.v 1) .nil)))) (.cons (.iff (.cmp .gt (.cl 0 (.cons (.ix (.v 2) (.c (.int 1))) .nil)) (.c (.int 0))) (.cons (.exp (.me .append (.v 0) (.cons (.ix (.v 2) (.c (.int 1))) .nil))) .nil) .nil) (.cons (.ret (.ix (.v 2) (.c (.int 0)))) .nil)))⟩
noncomputable abbrev QN:Ev.Fn:=⟨2,3,(.cons (.set 2 (.ix (.v 0) (.c (.int 0)))) (.cons (.iff (.cmp .eq (.v 2) (.c (.str [107,101,101,112]))) (.cons (.ret (.tup (.cons (.tup (.cons (.v 2) (.cons (.v 1) .nil))) (.cons (.tup (.cons (.v 2) (.cons (.bin .sub (.ix (.v 0) (.c (.int 1))) (.v 1)) .nil))) .nil)))) .nil) .nil) (.cons (.ret (.tup (.cons (.tup (.cons (.v 2) (.cons (.sl (.ix (.v 0) (.c (.int 1))) .no (.yes (.v 1))) .nil))) (.cons (.tup (.cons (.v 2) (.cons (.sl (.ix (.v 0) (.c (.int 1))) (.yes (.v 1)) .no) .nil))) .nil)))) .nil)))⟩
noncomputable abbrev ER:Ev.Fn:=⟨2,2,(.cons (.ret (.ix (.cl 16 (.cons (.v 0) (.cons (.v 1) .nil))) (.c (.int 0)))) .nil)⟩
noncomputable abbrev ES:Ev.Fn:=⟨2,2,(.cons (.ret (.cl 18 (.cons (.ix (.cl 16 (.cons (.v 0) (.cons (.v 1) .nil))) (.c (.int 0))) .nil))) .nil)⟩
noncomputable abbrev ET:Ev.Fn:=⟨2,2,(.cons (.ret (.cl 18 (.cons (.ix (.cl 16 (.cons (.v 0) (.cons (.v 1) .nil))) (.c (.int 1))) .nil))) .nil)⟩
noncomputable abbrev QO:Ev.Fn:=⟨2,9,(.cons (.set 2 (.v 0)) (.cons (.set 3 (.comp (.c (.aD)) (.one 8) (.seq (.v 0)) .no)) (.cons (.set 4 (.lst .nil)) (.cons (.for (.many [5,6]) (.seq (.v 1)) (.cons (.set 2 (.cl 6 (.cons (.v 6) (.cons (.v 2) .nil)))) (.cons (.set 7 (.cl 17 (.cons (.v 3) (.cons (.v 5) (.cons (.v 6) .nil))))) (.cons (.set 3 (.ix (.v 7) (.c (.int 0)))) (.cons (.exp (.me .extend (.v 4) (.cons (.ix (.v 7) (.c (.int 1))) .nil))) .nil))))) (.cons (.ret (.tup (.cons (.v 3) (.cons (.v 4) .nil)))) .nil)))))⟩
noncomputable abbrev QS:Ev.Fn:=⟨3,9,(.cons (.set 3 (.lst .nil)) (.cons (.set 4 (.lst .nil)) (.cons (.set 5 (.c (.int 0))) (.cons (.for (.one 6) (.seq (.v 2)) (.cons (.iff (.cmp .eq (.ix (.v 6) (.c (.int 0))) (.c (.str [112,117,116]))) (.cons (.exp (.me .extend (.v 3) (.cons (.comp (.v 1) (.one 8) (.seq (.ix (.v 6) (.c (.int 1)))) .no) .nil))) (.cons (.cnt) .nil)) .nil) (.cons (.set 7 (.sl (.v 0) (.yes (.v 5)) (.yes (.bin .add (.v 5) (.cl 0 (.cons (.v 6) .nil)))))) (.cons (.set 5 (.bin .add (.v 5) (.cl 0 (.cons (.v 6) .nil)))) (.cons (.iff (.cmp .eq (.ix (.v 6) (.c (.int 0))) (.c (.str [107,101,101,112]))) (.cons (.exp (.me .extend (.v 3) (.cons (.v 7) .nil))) .nil) (.cons (.exp (.me .extend (.v 4) (.cons (.v 7) .nil))) .nil)) .nil))))) (.cons (.ret (.tup (.cons (.v 3) (.cons (.v 4) .nil)))) .nil)))))⟩
noncomputable abbrev QT:Ev.Fn:=⟨1,4,(.cons (.set 1 (.comp (.v 2) (.one 2) (.seq (.v 0)) (.yes (.cmp .lT (.v 2) (.c (.aD)))))) (.cons (.ret (.comp (.tup (.cons (.v 3) (.cons (.me .count (.v 1) (.cons (.v 3) .nil)) .nil))) (.one 3) (.seq (.bi .kU (.cons (.v 1) .nil))) .no)) .nil))⟩
noncomputable abbrev QU:Ev.Fn:=⟨2,2,(.cons (.iff (.cmp .eq (.v 0) (.lst .nil)) (.cons (.ret (.bin .mul (.c (.int 7)) (.v 1))) .nil) .nil) (.cons (.ret (.bin .add (.ix (.v 0) (.bin .mod (.v 1) (.bi .len (.cons (.v 0) .nil)))) (.bin .mul (.c (.int 6553)) (.bin .fdiv (.v 1) (.bi .len (.cons (.v 0) .nil)))))) .nil))⟩
noncomputable abbrev QV:Ev.Fn:=⟨3,4,(.cons (.set 3 (.bin .mod (.bin .add (.bin .mul (.bin .mod (.cl 19 (.cons (.v 0) (.cons (.v 1) .nil))) (.c (.int 2147483563))) (.c (.int 69069))) (.bin .mul (.c (.int 104723)) (.bin .add (.v 1) (.c (.int 1))))) (.c (.int 2147483563)))) (.cons (.set 3 (.bin .mod (.bin .add (.bin .mul (.v 3) (.v 3)) (.bin .fdiv (.v 3) (.c (.int 3)))) (.c (.int 2147483399)))) (.cons (.ret (.bin .mod (.bin .fdiv (.bin .mod (.bin .add (.bin .mul (.v 3) (.v 3)) (.bin .fdiv (.v 3) (.c (.int 7)))) (.c (.int 2147483647))) (.c (.int 11))) (.v 2))) .nil)))⟩
noncomputable abbrev QW:Ev.Fn:=⟨3,4,(.cons (.ret (.me .join (.c (.str [])) (.cons (.comp (.ix (.c (.str [97,98,99,32])) (.cl 20 (.cons (.v 0) (.cons (.bin .add (.bin .add (.v 1) (.c (.int 1))) (.v 3)) (.cons (.c (.int 4)) .nil))))) (.one 3) (.jh (.cons (.cl 20 (.cons (.v 0) (.cons (.v 1) (.cons (.bin .add (.v 2) (.c (.int 1))) .nil)))) .nil)) .no) .nil))) .nil)⟩
noncomputable abbrev QX:Ev.Fn:=⟨3,7,(.cons (.set 3 (.tup .nil)) (.cons (.for (.one 4) (.jh (.cons (.bin .add (.bi .len (.cons (.v 2) .nil)) (.c (.int 1))) .nil)) (.cons (.iff (.cmp .eq (.cl 20 (.cons (.v 0) (.cons (.bin .add (.v 1) (.bin .mul (.c (.int 4)) (.v 4))) (.cons (.c (.int 4)) .nil)))) (.c (.int 0))) (.cons (.set 5 (.bin .mul (.ix (.c (.str [97,98,122])) (.cl 20 (.cons (.v 0) (.cons (.bin .add (.bin .add (.v 1) (.bin .mul (.c (.int 4)) (.v 4))) (.c (.int 1))) (.cons (.c (.int 3)) .nil))))) (.bin .add (.c (.int 1)) (.cl 20 (.cons (.v 0) (.cons (.bin .add (.bin .add (.v 1) (.bin .mul (.c (.int 4)) (.v 4))) (.c (.int 2))) (.cons (.c (.int 2)) .nil))))))) (.cons (.set 3 (.bin .add (.v 3) (.tup (.cons (.tup (.cons (.c (.str [112,117,116])) (.cons (.v 5) .nil))) .nil)))) .nil)) .nil) (.cons (.iff (.cmp .lt (.v 4) (.bi .len (.cons (.v 2) .nil))) (.cons (.set 6 (.cmp .gt (.cl 20 (.cons (.v 0) (.cons (.bin .add (.bin .add (.v 1) (.bin .mul (.c (.int 4)) (.v 4))) (.c (.int 3))) (.cons (.c (.int 3)) .nil)))) (.c (.int 0)))) (.cons (.set 3 (.bin .add (.v 3) (.tup (.cons (.fW (.v 6) (.tup (.cons (.c (.str [107,101,101,112])) (.cons (.c (.int 1)) .nil))) (.tup (.cons (.c (.str [100,114,111,112])) (.cons (.ix (.v 2) (.v 4)) .nil)))) .nil)))) .nil)) .nil) .nil))) (.cons (.ret (.v 3)) .nil)))⟩
noncomputable abbrev QY:Ev.Fn:=⟨2,6,(.cons (.set 2 (.c (.int 0))) (.cons (.set 3 (.c (.str []))) (.cons (.for (.many [4,5]) (.seq (.v 0)) (.cons (.iff (.cmp .eq (.v 4) (.c (.str [112,117,116]))) (.cons (.set 3 (.bin .add (.v 3) (.v 5))) .nil) (.cons (.iff (.cmp .eq (.v 4) (.c (.str [100,114,111,112]))) (.cons (.iff (.cmp .ne (.sl (.v 1) (.yes (.v 2)) (.yes (.bin .add (.v 2) (.bi .len (.cons (.v 5) .nil))))) (.v 5)) (.cons (.ret (.c (.aD))) .nil) .nil) (.cons (.set 2 (.bin .add (.v 2) (.bi .len (.cons (.v 5) .nil)))) .nil)) (.cons (.set 3 (.bin .add (.v 3) (.sl (.v 1) (.yes (.v 2)) (.yes (.bin .add (.v 2) (.v 5)))))) (.cons (.set 2 (.bin .add (.v 2) (.v 5))) .nil))) .nil)) .nil)) (.cons (.ret (.fW (.cmp .eq (.v 2) (.bi .len (.cons (.v 1) .nil))) (.v 3) (.c (.aD)))) .nil))))⟩
noncomputable abbrev QZ:Ev.Fn:=⟨3,6,(.cons (.iff (.cmp .eq (.cl 20 (.cons (.v 0) (.cons (.bin .add (.v 1) (.c (.int 60))) (.cons (.c (.int 5)) .nil)))) (.c (.int 0))) (.cons (.ret (.fW (.cmp .ne (.v 2) (.c (.str []))) (.tup (.cons (.tup (.cons (.c (.str [107,101,101,112])) (.cons (.bi .len (.cons (.v 2) .nil)) .nil))) .nil)) (.tup .nil))) .nil) .nil) (.cons (.iff (.cmp .lt (.bi .len (.cons (.v 2) .nil)) (.c (.int 7))) (.cons (.ret (.cl 22 (.cons (.v 0) (.cons (.v 1) (.cons (.v 2) .nil))))) .nil) .nil) (.cons (.set 3 (.cl 20 (.cons (.v 0) (.cons (.bin .add (.v 1) (.c (.int 61))) (.cons (.bin .sub (.bi .len (.cons (.v 2) .nil)) (.c (.int 3))) .nil))))) (.cons (.set 4 (.fW (.cmp .gt (.v 3) (.c (.int 0))) (.tup (.cons (.tup (.cons (.c (.str [107,101,101,112])) (.cons (.v 3) .nil))) .nil)) (.tup .nil))) (.cons (.set 5 (.bin .sub (.bin .sub (.bi .len (.cons (.v 2) .nil)) (.v 3)) (.c (.int 3)))) (.cons (.ret (.bin .add (.bin .add (.v 4) (.cl 22 (.cons (.v 0) (.cons (.v 1) (.cons (.sl (.v 2) (.yes (.v 3)) (.yes (.bin .add (.v 3) (.c (.int 3))))) .nil))))) (.fW (.cmp .gt (.v 5) (.c (.int 0))) (.tup (.cons (.tup (.cons (.c (.str [107,101,101,112])) (.cons (.v 5) .nil))) .nil)) (.tup .nil)))) .nil))))))⟩
noncomputable abbrev yJ:Ev.Fn:=⟨4,8,(.cons (.set 4 (.lst .nil)) (.cons (.for (.one 5) (.jh (.cons (.cl 20 (.cons (.v 0) (.cons (.v 1) (.cons (.bin .add (.v 3) (.c (.int 1))) .nil)))) .nil)) (.cons (.set 6 (.ix (.lst (.cons (.c (.str [97,110,110])) (.cons (.c (.str [98,111])) (.cons (.c (.str [97,110,110])) (.cons (.c (.str [99])) .nil))))) (.cl 20 (.cons (.v 0) (.cons (.bin .add (.bin .add (.v 1) (.c (.int 1))) (.bin .mul (.c (.int 70)) (.v 5))) (.cons (.c (.int 4)) .nil)))))) (.cons (.set 7 (.cl 24 (.cons (.v 0) (.cons (.bin .add (.bin .add (.v 1) (.c (.int 2))) (.bin .mul (.c (.int 70)) (.v 5))) (.cons (.v 2) .nil))))) (.cons (.set 2 (.cl 23 (.cons (.v 7) (.cons (.v 2) .nil)))) (.cons (.exp (.me .append (.v 4) (.cons (.tup (.cons (.v 6) (.cons (.v 7) .nil))) .nil))) .nil))))) (.cons (.ret (.v 4)) .nil)))⟩
noncomputable abbrev EU:Ev.Fn:=⟨3,13,(.cons (.set 3 (.nN [([97,110,110],[120]),([98,111],[121]),([99],[122])])) (.cons (.set 4 (.comp (.tup (.cons (.nP (.v 3) (.v 6)) (.cons (.v 7) .nil))) (.many [6,7]) (.seq (.v 1)) .no)) (.cons (.iff (.cmp .ne (.cl 13 (.cons (.v 0) (.cons (.v 4) .nil))) (.comp (.fW (.cmp .zI (.v 8) (.c (.aD))) (.c (.aD)) (.nP (.v 3) (.v 8))) (.one 8) (.seq (.v 2)) .no)) (.cons (.ret (.c (.bl false))) .nil) .nil) (.cons (.set 5 (.comp (.tup (.cons (.c (.str [97,110,110])) (.cons (.v 10) .nil))) (.many [9,10]) (.seq (.v 1)) .no)) (.cons (.ret (.cmp .eq (.cl 13 (.cons (.v 0) (.cons (.v 5) .nil))) (.cl 13 (.cons (.v 0) (.cons (.lst (.cons (.tup (.cons (.c (.str [97,110,110])) (.cons (.cl 9 (.cons (.bi .len (.cons (.v 0) .nil)) (.cons (.comp (.v 12) (.many [11,12]) (.seq (.v 1)) .no) .nil))) .nil))) .nil)) .nil))))) .nil)))))⟩
noncomputable abbrev Js:Ev.Ss:=(.cons (.set 3 (.cl 6 (.cons (.v 5) (.cons (.v 3) .nil)))) .nil)
noncomputable abbrev Jt:Ev.S:=.set 6 (.cl 13 (.cons (.v 1) (.cons (.v 2) .nil)))
noncomputable abbrev Ju:Ev.S:=.iff (.cmp .ne (.bi .len (.cons (.v 6) .nil)) (.bi .len (.cons (.v 3) .nil))) (.cons (.ret (.c (.bl false))) .nil) .nil
noncomputable abbrev Jv:Ev.S:=.iff (.cmp .ne (.bin .add (.bi .sum (.cons (.comp (.v 17) (.many [16,17]) (.seq (.cl 14 (.cons (.v 1) (.cons (.v 2) .nil)))) .no) .nil)) (.me .count (.v 6) (.cons (.c (.aD)) .nil))) (.bi .len (.cons (.v 3) .nil))) (.cons (.ret (.c (.bl false))) .nil) .nil
noncomputable abbrev Jw:Ev.S:=.nQ 7 .nil
noncomputable abbrev Ck:Ev.Ss:=(.cons (.exp (.fm Ev.cD .dput 7 0 (.cons (.v 4) (.cons (.bin .add (.fu Ev.cD .qI 7 0 (.cons (.v 4) .nil)) (.bi .sum (.cons (.comp (.bi .len (.cons (.v 19) .nil)) (.many [18,19]) (.seq (.v 5)) (.yes (.cmp .eq (.v 18) (.c (.str [112,117,116]))))) .nil))) .nil)))) .nil)
noncomputable abbrev Jx:Ev.S:=.for (.many [4,5]) (.seq (.v 2)) Ck
noncomputable abbrev Cm:Ev.S:=.nQ 8 (.cons (.cl 14 (.cons (.v 1) (.cons (.v 2) .nil))) .nil)
noncomputable abbrev Cn:Ev.Ss:=(.cons (.exp (.fm Ev.cD .dput 8 0 (.cons (.v 4) (.cons (.bin .add (.fu Ev.cD .qI 8 0 (.cons (.v 4) .nil)) (.v 9)) .nil)))) .nil)
noncomputable abbrev yK:Ev.S:=.for (.many [4,9]) (.seq (.cl 15 (.cons (.v 1) (.cons (.v 2) .nil)))) Cn
noncomputable abbrev yL:Ev.S:=.exp (.fm Ev.cD .qJ 7 0 .nil)
noncomputable abbrev yN:Ev.S:=.exp (.fm Ev.cD .qJ 8 0 .nil)
noncomputable abbrev yO:Ev.S:=.iff (.cmp .ne (.fu Ev.cD .tB 8 0 .nil) (.bi .sorted (.cons (.comp (.v 20) (.one 20) (.qq Ev.cD 7) (.yes (.cmp .gt (.fu Ev.cD .oJ 7 0 (.cons (.v 20) .nil)) (.c (.int 0))))) .nil))) (.cons (.ret (.c (.bl false))) .nil) .nil
noncomputable abbrev yP:Ev.S:=.iff (.cmp .ne (.comp (.v 21) (.one 21) (.qq Ev.cD 8) (.yes (.cmp .ne (.fu Ev.cD .oJ 8 0 (.cons (.v 21) .nil)) (.fu Ev.cD .oJ 7 0 (.cons (.v 21) .nil))))) (.lst .nil)) (.cons (.ret (.c (.bl false))) .nil) .nil
noncomputable abbrev yQ:Ev.S:=.set 10 (.cl 24 (.cons (.v 0) (.cons (.c (.int 500)) (.cons (.v 3) .nil))))
noncomputable abbrev yR:Ev.S:=.set 11 (.cl 13 (.cons (.v 1) (.cons (.bin .add (.v 2) (.lst (.cons (.tup (.cons (.c (.str [122,101,100])) (.cons (.v 10) .nil))) .nil))) .nil)))
noncomputable abbrev yS:Ev.S:=.set 12 (.lst .nil)
noncomputable abbrev yT:Ev.S:=.set 13 (.c (.int 0))
noncomputable abbrev Co:Ev.Ss:=(.cons (.iff (.cmp .eq (.v 14) (.c (.str [107,101,101,112]))) (.cons (.set 12 (.bin .add (.v 12) (.sl (.v 6) (.yes (.v 13)) (.yes (.bin .add (.v 13) (.v 15)))))) .nil) .nil) (.cons (.iff (.cmp .ne (.v 14) (.c (.str [112,117,116]))) (.cons (.set 13 (.bin .add (.v 13) (.fW (.cmp .eq (.v 14) (.c (.str [107,101,101,112]))) (.v 15) (.bi .len (.cons (.v 15) .nil))))) .nil) .nil) .nil))
noncomputable abbrev yU:Ev.S:=.for (.many [14,15]) (.seq (.v 10)) Co
noncomputable abbrev yV:Ev.S:=.iff (.cmp .ne (.comp (.v 22) (.one 22) (.seq (.v 11)) (.yes (.cmp .ne (.v 22) (.c (.str [122,101,100]))))) (.v 12)) (.cons (.ret (.c (.bl false))) .nil) .nil
noncomputable abbrev yW:Ev.S:=.ret (.cl 26 (.cons (.v 1) (.cons (.v 2) (.cons (.v 6) .nil))))
noncomputable abbrev EV:Ev.Fn:=⟨1,23,(.cons (.set 1 (.cl 21 (.cons (.v 0) (.cons (.c (.int 0)) (.cons (.c (.int 6)) .nil))))) (.cons (.set 2 (.cl 25 (.cons (.v 0) (.cons (.c (.int 20)) (.cons (.v 1) (.cons (.c (.int 5)) .nil)))))) (.cons (.set 3 (.v 1)) (.cons (.for (.many [4,5]) (.seq (.v 2)) Js) (.cons Jt (.cons Ju (.cons Jv (.cons Jw (.cons Jx (.cons Cm (.cons yK (.cons yL (.cons yN (.cons yO (.cons yP (.cons yQ (.cons yR (.cons yS (.cons yT (.cons yU (.cons yV (.cons yW .nil))))))))))))))))))))))⟩
noncomputable def prog:List Ev.Fn:=[f0,f1,f2,f3,f4,f5,f6,f7,f8,f9,Dc,QM,QN,ER,ES,ET,QO,QS,QT,QU,QV,QW,QX,QY,QZ,yJ,EU,EV]
end Lw
namespace Lw
open PySem PySem.Spec PyProof.Rows L2 Sm
open Ev (D O Hh Fr R aS E Es Eo T S Ss Fl Src bV bR TY BI ME)
noncomputable def top(i:Nat):Stmt:=PySem.Challenge.pw_pastways_k44_whole_owners.main.body.getD i (.Pass ⟨0,0,0,0⟩)
abbrev i0 (a:Nat->Addr) (d:Nat->FuncData):FI:=⟨"size",a 0,d 0,["part"]⟩
abbrev i1 (a:Nat->Addr) (d:Nat->FuncData):FI:=⟨"before",a 1,d 1,["change"]⟩
abbrev i2 (a:Nat->Addr) (d:Nat->FuncData):FI:=⟨"after",a 2,d 2,["change"]⟩
abbrev i3 (a:Nat->Addr) (d:Nat->FuncData):FI:=⟨"form",a 3,d 3,["change"]⟩
abbrev i4 (a:Nat->Addr) (d:Nat->FuncData):FI:=⟨"stretch",a 4,d 4,["kept","gone","new"]⟩
abbrev i5 (a:Nat->Addr) (d:Nat->FuncData):FI:=⟨"fits",a 5,d 5,["change","text"]⟩
abbrev i6 (a:Nat->Addr) (d:Nat->FuncData):FI:=⟨"done",a 6,d 6,["change","text"]⟩
abbrev i7 (a:Nat->Addr) (d:Nat->FuncData):FI:=⟨"nothing",a 7,d 7,["many"]⟩
abbrev i8 (a:Nat->Addr) (d:Nat->FuncData):FI:=⟨"then",a 8,d 8,["one","other"]⟩
abbrev i9 (a:Nat->Addr) (d:Nat->FuncData):FI:=⟨"all_then",a 9,d 9,["many","rows"]⟩
abbrev Q0 (a:Nat->Addr) (d:Nat->FuncData):FI:=⟨"met",a 10,d 10,["left","gone_through"]⟩
abbrev Q2 (a:Nat->Addr) (d:Nat->FuncData):FI:=⟨"taken",a 11,d 11,["parts","many"]⟩
abbrev i12 (a:Nat->Addr) (d:Nat->FuncData):FI:=⟨"parted",a 12,d 12,["part","many"]⟩
abbrev Q3 (a:Nat->Addr) (d:Nat->FuncData):FI:=⟨"owners",a 13,d 13,["text","rows"]⟩
abbrev Q4 (a:Nat->Addr) (d:Nat->FuncData):FI:=⟨"shares",a 14,d 14,["text","rows"]⟩
abbrev Q5 (a:Nat->Addr) (d:Nat->FuncData):FI:=⟨"lost",a 15,d 15,["text","rows"]⟩
abbrev Q6 (a:Nat->Addr) (d:Nat->FuncData):FI:=⟨"traced",a 16,d 16,["text","rows"]⟩
abbrev Q7 (a:Nat->Addr) (d:Nat->FuncData):FI:=⟨"traced_once",a 17,d 17,["standing","own","change"]⟩
abbrev Q8 (a:Nat->Addr) (d:Nat->FuncData):FI:=⟨"counted",a 18,d 18,["names"]⟩
abbrev Q9 (a:Nat->Addr) (d:Nat->FuncData):FI:=⟨"_law_cell",a 19,d 19,["_law_script","_law_k"]⟩
abbrev Ra (a:Nat->Addr) (d:Nat->FuncData):FI:=⟨"_law_drawn",a 20,d 20,["_law_script","_law_k","_law_many"]⟩
abbrev Rb (a:Nat->Addr) (d:Nat->FuncData):FI:=⟨"_law_text",a 21,d 21,["_law_script","_law_at","_law_most"]⟩
abbrev Rc (a:Nat->Addr) (d:Nat->FuncData):FI:=⟨"_law_change",a 22,d 22,["_law_script","_law_at","_law_text_here"]⟩
abbrev Rf (a:Nat->Addr) (d:Nat->FuncData):FI:=⟨"_law_made",a 23,d 23,["_law_change_here","_law_text_here"]⟩
abbrev Rg (a:Nat->Addr) (d:Nat->FuncData):FI:=⟨"_law_small",a 24,d 24,["_law_script","_law_at","_law_text_here"]⟩
abbrev Rh (a:Nat->Addr) (d:Nat->FuncData):FI:=⟨"_law_rows",a 25,d 25,["_law_script","_law_at","_law_text_here","_law_most"]⟩
abbrev Ri (a:Nat->Addr) (d:Nat->FuncData):FI:=⟨"_law_named",a 26,d 26,["_law_text_here","_law_rows_here","_law_marks"]⟩
abbrev Jy (a:Nat->Addr) (d:Nat->FuncData):FI:=⟨"law",a 27,d 27,["_law_script"]⟩
noncomputable def nZ:List Str:=["dict","len","list","min","range","reversed","set","sorted","sum","tuple"]
def Rj:("dict" : Str)∈nZ:=by decide +kernel
def Up:("len" : Str)∈nZ:=by decide +kernel
def Rk:("list" : Str)∈nZ:=by decide +kernel
def Uq:("min" : Str)∈nZ:=by decide +kernel
def L1:("range" : Str)∈nZ:=by decide +kernel
def Cp:("reversed" : Str)∈nZ:=by decide +kernel
def Ur:("set" : Str)∈nZ:=by decide +kernel
def rj:("sorted" : Str)∈nZ:=by decide +kernel
def Us:("sum" : Str)∈nZ:=by decide +kernel
def L3:("tuple" : Str)∈nZ:=by decide +kernel
noncomputable def tb (a:Nat->Addr) (d:Nat->FuncData):Tb:=⟨prog,100000,[i0 a d,i1 a d,i2 a d,i3 a d,i4 a d,i5 a d,i6 a d,i7 a d,i8 a d,i9 a d,Q0 a d,Q2 a d,i12 a d,Q3 a d,Q4 a d,Q5 a d,Q6 a d,Q7 a d,Q8 a d,Q9 a d,Ra a d,Rb a d,Rc a d,Rf a d,Rg a d,Rh a d,Ri a d,Jy a d],nZ,[("__name__",.str [108,97,119,95,112,97,115,116,119,97,121,115,95,107,52,52,95,119,104,111,108,101,95,111,119,110,101,114,115])],[]⟩
section
variable{a:Nat->Addr}{d:Nat->FuncData}{n:Nat}
noncomputable abbrev n0:List Str:=["part"]
def s0:bI n0 ["part"] (aU (top 1)):=⟨rfl,rfl,rfl,by decide +kernel,rfl,by decide +kernel,by decide +kernel⟩
noncomputable abbrev n1:List Str:=["change"]
def s1:bI n1 ["change"] (aU (top 2)):=⟨rfl,rfl,rfl,by decide +kernel,rfl,by decide +kernel,by decide +kernel⟩
noncomputable abbrev n2:List Str:=["change"]
def s2:bI n2 ["change"] (aU (top 3)):=⟨rfl,rfl,rfl,by decide +kernel,rfl,by decide +kernel,by decide +kernel⟩
noncomputable abbrev n3:List Str:=["change","parts","kept","gone","new","word","what"]
def s3:bI n3 ["change"] (aU (top 4)):=⟨rfl,rfl,rfl,by decide +kernel,rfl,by decide +kernel,by decide +kernel⟩
noncomputable abbrev n4:List Str:=["kept","gone","new","parts"]
def s4:bI n4 ["kept","gone","new"] (aU (top 5)):=⟨rfl,rfl,rfl,by decide +kernel,rfl,by decide +kernel,by decide +kernel⟩
noncomputable abbrev n5:List Str:=["change","text","place","part"]
def s5:bI n5 ["change","text"] (aU (top 10)):=⟨rfl,rfl,rfl,by decide +kernel,rfl,by decide +kernel,by decide +kernel⟩
noncomputable abbrev n6:List Str:=["change","text","pieces","place","word","what"]
def s6:bI n6 ["change","text"] (aU (top 11)):=⟨rfl,rfl,rfl,by decide +kernel,rfl,by decide +kernel,by decide +kernel⟩
noncomputable abbrev n7:List Str:=["many"]
def s7:bI n7 ["many"] (aU (top 12)):=⟨rfl,rfl,rfl,by decide +kernel,rfl,by decide +kernel,by decide +kernel⟩
noncomputable abbrev n8:List Str:=["one","other","ones","others","parts","many"]
def s8:bI n8 ["one","other"] (aU (top 13)):=⟨rfl,rfl,rfl,by decide +kernel,rfl,by decide +kernel,by decide +kernel⟩
noncomputable abbrev n9:List Str:=["many","rows","whole","change"]
def s9:bI n9 ["many","rows"] (aU (top 14)):=⟨rfl,rfl,rfl,by decide +kernel,rfl,by decide +kernel,by decide +kernel⟩
noncomputable abbrev Rl:List Str:=["left","gone_through"]
def US:bI Rl ["left","gone_through"] (aU (top 15)):=⟨rfl,rfl,rfl,by decide +kernel,rfl,by decide +kernel,by decide +kernel⟩
noncomputable abbrev Rm:List Str:=["parts","many","halves"]
def Ik:bI Rm ["parts","many"] (aU (top 16)):=⟨rfl,rfl,rfl,by decide +kernel,rfl,by decide +kernel,by decide +kernel⟩
noncomputable abbrev Rn:List Str:=["part","many","word"]
def s12:bI Rn ["part","many"] (aU (top 17)):=⟨rfl,rfl,rfl,by decide +kernel,rfl,by decide +kernel,by decide +kernel⟩
noncomputable abbrev Ro:List Str:=["text","rows"]
def YH:bI Ro ["text","rows"] (aU (top 19)):=⟨rfl,rfl,rfl,by decide +kernel,rfl,by decide +kernel,by decide +kernel⟩
noncomputable abbrev Rp:List Str:=["text","rows"]
def YI:bI Rp ["text","rows"] (aU (top 20)):=⟨rfl,rfl,rfl,by decide +kernel,rfl,by decide +kernel,by decide +kernel⟩
noncomputable abbrev Rq:List Str:=["text","rows"]
def EW:bI Rq ["text","rows"] (aU (top 21)):=⟨rfl,rfl,rfl,by decide +kernel,rfl,by decide +kernel,by decide +kernel⟩
noncomputable abbrev Rt:List Str:=["text","rows","now","standing","gone","own","change","both"]
def YJ:bI Rt ["text","rows"] (aU (top 22)):=⟨rfl,rfl,rfl,by decide +kernel,rfl,by decide +kernel,by decide +kernel⟩
noncomputable abbrev Ru:List Str:=["standing","own","change","left","gone","place","part","names"]
def YK:bI Ru ["standing","own","change"] (aU (top 23)):=⟨rfl,rfl,rfl,by decide +kernel,rfl,by decide +kernel,by decide +kernel⟩
noncomputable abbrev Rw:List Str:=["names","put"]
def YL:bI Rw ["names"] (aU (top 24)):=⟨rfl,rfl,rfl,by decide +kernel,rfl,by decide +kernel,by decide +kernel⟩
noncomputable abbrev Rx:List Str:=["_law_script","_law_k"]
def YM:bI Rx ["_law_script","_law_k"] (aU (top 26)):=⟨rfl,rfl,rfl,by decide +kernel,rfl,by decide +kernel,by decide +kernel⟩
noncomputable abbrev Ry:List Str:=["_law_script","_law_k","_law_many","_law_cell_here"]
def YN:bI Ry ["_law_script","_law_k","_law_many"] (aU (top 27)):=⟨rfl,rfl,rfl,by decide +kernel,rfl,by decide +kernel,by decide +kernel⟩
noncomputable abbrev Rz:List Str:=["_law_script","_law_at","_law_most"]
def YO:bI Rz ["_law_script","_law_at","_law_most"] (aU (top 28)):=⟨rfl,rfl,rfl,by decide +kernel,rfl,by decide +kernel,by decide +kernel⟩
noncomputable abbrev RA:List Str:=["_law_script","_law_at","_law_text_here","_law_found","_law_k","_law_new","_law_is_kept"]
def YQ:bI RA ["_law_script","_law_at","_law_text_here"] (aU (top 29)):=⟨rfl,rfl,rfl,by decide +kernel,rfl,by decide +kernel,by decide +kernel⟩
noncomputable abbrev RB:List Str:=["_law_change_here","_law_text_here","_law_place","_law_found","_law_word","_law_what"]
def YR:bI RB ["_law_change_here","_law_text_here"] (aU (top 30)):=⟨rfl,rfl,rfl,by decide +kernel,rfl,by decide +kernel,by decide +kernel⟩
noncomputable abbrev RC:List Str:=["_law_script","_law_at","_law_text_here","_law_place","_law_here","_law_rest"]
def YS:bI RC ["_law_script","_law_at","_law_text_here"] (aU (top 31)):=⟨rfl,rfl,rfl,by decide +kernel,rfl,by decide +kernel,by decide +kernel⟩
noncomputable abbrev RD:List Str:=["_law_script","_law_at","_law_text_here","_law_most","_law_found","_law_k","_law_own","_law_change_here"]
def YT:bI RD ["_law_script","_law_at","_law_text_here","_law_most"] (aU (top 32)):=⟨rfl,rfl,rfl,by decide +kernel,rfl,by decide +kernel,by decide +kernel⟩
noncomputable abbrev RE:List Str:=["_law_text_here","_law_rows_here","_law_marks","_law_names","_law_other","_law_one"]
def YU:bI RE ["_law_text_here","_law_rows_here","_law_marks"] (aU (top 33)):=⟨rfl,rfl,rfl,by decide +kernel,rfl,by decide +kernel,by decide +kernel⟩
noncomputable abbrev RG:List Str:=["_law_script","_law_text_here","_law_rows_here","_law_last","_law_own","_law_change_here","_law_marks","_law_put","_law_both","_law_many","_law_more","_law_new","_law_kept","_law_place","_law_word","_law_what"]
def YV:bI RG ["_law_script"] (aU (top 34)):=⟨rfl,rfl,rfl,by decide +kernel,rfl,by decide +kernel,by decide +kernel⟩
set_option maxHeartbeats 0 in
def dS:allB (tb a d) n [(f0.body,top 1,n0),(f1.body,top 2,n1),(f2.body,top 3,n2),(f3.body,top 4,n3),(f4.body,top 5,n4),(f5.body,top 10,n5),(f6.body,top 11,n6),(f7.body,top 12,n7),(f8.body,top 13,n8),(f9.body,top 14,n9),(Dc.body,top 15,Rl),(QM.body,top 16,Rm),(QN.body,top 17,Rn),(ER.body,top 19,Ro),(ES.body,top 20,Rp),(ET.body,top 21,Rq),(QO.body,top 22,Rt),(QS.body,top 23,Ru),(QT.body,top 24,Rw),(QU.body,top 26,Rx),(QV.body,top 27,Ry),(QW.body,top 28,Rz),(QX.body,top 29,RA),(QY.body,top 30,RB),(QZ.body,top 31,RC),(yJ.body,top 32,RD),(EU.body,top 33,RE),(EV.body,top 34,RG)]:=by
 refine⟨?_,?_,?_,?_,?_,?_,?_,?_,?_,?_,?_,?_,?_,?_,?_,?_,?_,?_,?_,?_,?_,?_,?_,?_,?_,?_,?_,?_,trivial⟩;all_goals try dsimp only
 all_goals repeat (first
  | ((with_reducible show JS _ _ _ _ _ _ (.exp (.fm Ev.cD .dput _ _ _)) _);refine GJ ?_ ?_ ?_)
  | ((with_reducible show kC _ _ _ _ _ _ (.cons (.exp (.fm Ev.cD .qJ _ _ _)) _) _);refine K1 ?_)
  | ((with_reducible show JE _ _ _ _ _ _ (.v _) _);exact jv (by kernel_rfl))
  | ((with_reducible show JA _ _ _ _ _ _ (.cons _ _) _);refine Km ?_ ?_)
  | ((with_reducible show kC _ _ _ _ _ _ (.cons _ _) _);refine Gb ?_ ?_)
  | ((with_reducible show JA _ _ _ _ _ _ .nil _);refine Nb)
  | ((with_reducible show kC _ _ _ _ _ _ .nil _);refine Ku)
  | ((with_reducible show JE _ _ _ _ _ _ (.c (.int _)) _);refine CU)
  | ((with_reducible show JE _ _ _ _ _ _ (.cl _ _) _);refine Yb (by kernel_rfl) rfl rfl ?_)
  | ((with_reducible show JE _ _ _ _ _ _ (.c (.str _)) _);refine Na)
  | ((with_reducible show JE _ _ _ _ _ _ (.bin .add _ _) _);refine oN (λX g=>NQ) ?_ ?_)
  | ((with_reducible show JS _ _ _ _ _ _ (.ret _) _);refine Ny ?_)
  | ((with_reducible show JS _ _ _ _ _ _ (.iff _ _ _) _);refine NB ?_ ?_ ?_)
  | ((with_reducible show JE _ _ _ _ _ _ (.ix _ _) _);refine S8 (λX g=>To) ?_ ?_)
  | ((with_reducible show JE _ _ _ _ _ _ (.tup _) _);refine Nc ?_)
  | ((with_reducible show ux _ _ _ _ _ _ (_ :: _) _);refine X8 (by decide +kernel) ?_)
  | ((with_reducible show JI _ _ _ _ _ _ (.seq _) _ _);refine Nr ?_)
  | ((with_reducible show JT _ _ _ _ _ _ (.cmp .eq _ _) _);refine mC (λX g=>Iw g) ?_ ?_ (jD _))
  | ((with_reducible show JT _ _ _ _ _ _ (.cmp .ne _ _) _);refine mC (λX g=>Ti g) ?_ ?_ (jD _))
  | ((with_reducible show JE _ _ _ _ _ _ (.bi .len _) _);refine vn (x:="len") (id:="len") (λX g=>N5) ?_ (hb:=Up) (hv:=by kernel_rfl))
  | ((with_reducible show JE _ _ _ _ _ _ (.lst _) _);refine Nd ?_)
  | ((with_reducible show JG _ _ _ _ _ _ (.one _) _);exact X7 (by kernel_rfl))
  | ((with_reducible show JS _ _ _ _ _ _ (.exp _) _);refine Nx ?_)
  | ((with_reducible show JO _ _ _ _ _ _ (.yes _) _);refine Nm ?_)
  | ((with_reducible show JS _ _ _ _ _ _ (.for _ _ _) _);refine ND ?_ ?_ ?_)
  | ((with_reducible show JG _ _ _ _ _ _ (.many _) _);refine Ks ?_)
  | ((with_reducible show ux _ _ _ _ _ _ [] _);refine Kr)
  | ((with_reducible show JE _ _ _ _ _ _ (.bin .mul _ _) _);refine oN (λX g=>N3) ?_ ?_)
  | ((with_reducible show JE _ _ _ _ _ _ (.comp _ _ _ _) _);refine Tv (by kernel_rfl) (by kernel_rfl) ?_ ?_ ?_ ?_)
  | ((with_reducible show JE _ _ _ _ _ _ (.me .append _ (.cons _ _)) _);refine vp aaX abL abK (λX g=>Dm) rfl ?_ ?_)
  | ((with_reducible show JE _ _ _ _ _ _ (.sl _ _ _) _);refine Tc (λX g=>N2) ?_ ?_ ?_)
  | ((with_reducible show JC _ _ _ _ _ _ .no _);refine Te)
  | ((with_reducible show JC _ _ _ _ _ _ (.yes _) _);refine NF ?_)
  | ((with_reducible show JE _ _ _ _ _ _ (.me .extend _ (.cons _ _)) _);refine vp aaX PySem.F.slot_list_extend PySem.F.type_list_extend (λX g=>Dn) rfl ?_ ?_)
  | ((with_reducible show JE _ _ _ _ _ _ (.c (.bl _)) _);refine S6)
  | ((with_reducible show JE _ _ _ _ _ _ (.c .aD) _);refine M9)
  | ((with_reducible show JE _ _ _ _ _ _ (.fW _ _ _) _);refine Ng ?_ ?_ ?_)
  | ((with_reducible show JT _ _ _ _ _ _ (.cmp .gt _ _) _);refine mC (λX g=>Iz) ?_ ?_ (jD _))
  | ((with_reducible show JE _ _ _ _ _ _ (.bin .mod _ _) _);refine oN (λX g=>NS) ?_ ?_)
  | ((with_reducible show JE _ _ _ _ _ _ (.bi .sum _) _);refine vn (x:="sum") (id:="sum") (λX g=>N4 g) ?_ (hb:=Us) (hv:=by kernel_rfl))
  | ((with_reducible show JE _ _ _ _ _ _ (.neg _) _);refine Nf ?_)
  | ((with_reducible show JE _ _ _ _ _ _ (.bin .sub _ _) _);refine oN (λX g=>NR) ?_ ?_)
  | ((with_reducible show JS _ _ _ _ _ _ (.set _ (.comp _ _ _ _)) _);refine Tz (by kernel_rfl) (by kernel_rfl) (by kernel_rfl) ?_ ?_ ?_ ?_)
  | ((with_reducible show JE _ _ _ _ _ _ (.bin .fdiv _ _) _);refine oN (λX g=>KI) ?_ ?_)
  | ((with_reducible show JT _ _ _ _ _ _ (.an _ _) _);refine WM ?_ ?_)
  | ((with_reducible show JW _ _ _ _ _ _ (.an _ _) (.BoolOp _ (_ :: _ :: _) _));refine Ie ?_ ?_)
  | ((with_reducible show JW _ _ _ _ _ _ _ (.BoolOp .And [_] _));refine Ni ?_)
  | ((with_reducible show JS _ _ _ _ _ _ (.gp _) _);refine N9)
  | ((with_reducible show JE _ _ _ _ _ _ (.me .pop _ .nil) _);refine Nn aaX acM acL (λX g=>N7) rfl ?_)
  | ((with_reducible show JI _ _ _ _ _ _ (.jh (.cons _ .nil)) _ _);refine Kq ?_ (hb:=L1))
  | ((with_reducible show JE _ _ _ _ _ _ (.fu Ev.cD .oJ _ _ _) _);refine GI ?_ ?_)
  | ((with_reducible show JT _ _ _ _ _ _ (.orr _ _) _);refine WN ?_ ?_)
  | ((with_reducible show JW _ _ _ _ _ _ (.orr _ _) (.BoolOp _ (_ :: _ :: _) _));refine CW ?_ ?_)
  | ((with_reducible show JW _ _ _ _ _ _ _ (.BoolOp .Or [_] _));refine Kn ?_)
  | ((with_reducible show JE _ _ _ _ _ _ (.jT _) _);refine N8 ?_ (h1:=L3))
  | ((with_reducible show JE _ _ _ _ _ _ (.cmp .eq _ _) _);refine CV (λX g=>Iw g) ?_ ?_ (jD _))
  | ((with_reducible show JE _ _ _ _ _ _ (.me .join _ (.cons _ _)) _);refine vp PySem.F.plainAttrs_str PySem.F.slot_str_join PySem.F.type_str_join (λX g=>KP) rfl ?_ ?_)
  | ((with_reducible show JE _ _ _ _ _ _ (.jF (.rev _)) _);refine KQ ?_ (h1:=Rk) (hb:=Cp))
  | ((with_reducible show JO _ _ _ _ _ _ .no _);refine S9)
  | ((with_reducible show JE _ _ _ _ _ _ (.me .count _ (.cons _ _)) _);refine vp aaX PySem.F.slot_list_count PySem.F.type_list_count (λX g=>Gm g) rfl ?_ ?_)
  | ((with_reducible show JT _ _ _ _ _ _ (.cmp .lt _ _) _);refine mC (λX g=>Tj) ?_ ?_ (jD _))
  | ((with_reducible show JE _ _ _ _ _ _ (.nP _ _) _);refine Oq ?_ ?_)
  | ((with_reducible show JE _ _ _ _ _ _ (.fu Ev.cD .qI _ _ _) _);refine K0 ?_ ?_)
  | ((with_reducible show JI _ _ _ _ _ _ (.qq Ev.cD _) _ _);refine OP ?_)
  | ((with_reducible show JT _ _ _ _ _ _ (.nt _) _);refine S7 ?_)
  | ((with_reducible show JS _ _ _ _ _ _ (.qt _ _) _);refine NC ?_ ?_)
  | ((with_reducible show JE _ _ _ _ _ _ (.bi .min _) _);refine vn (x:="min") (id:="min") (λX g=>N6 g) ?_ (hb:=Uq) (hv:=by kernel_rfl))
  | ((with_reducible show JS _ _ _ _ _ _ .cnt _);refine Nz)
  | ((with_reducible show JT _ _ _ _ _ _ (.cmp .lT _ _) _);refine mC (λX g=>KG) ?_ ?_ (jD _))
  | ((with_reducible show JE _ _ _ _ _ _ (.bi .kU _) _);refine GH ?_ (h1:=rj) (hb:=Ur))
  | ((with_reducible show JE _ _ _ _ _ _ (.cmp .gt _ _) _);refine CV (λX g=>Iz) ?_ ?_ (jD _))
  | ((with_reducible show JE _ _ _ _ _ _ (.nN _) _);exact Om (.cons (.cons (.cons .nil))))
  | ((with_reducible show JT _ _ _ _ _ _ (.cmp .zI _ _) _);refine mC (λX g=>NP) ?_ ?_ (jD _))
  | ((with_reducible show JS _ _ _ _ _ _ (.nQ _ .nil) _);exact KZ (by kernel_rfl))
  | ((with_reducible show JS _ _ _ _ _ _ (.nQ _ (.cons _ .nil)) _);refine K5 (by kernel_rfl) ?_ (h1:=Rj))
  | ((with_reducible show JE _ _ _ _ _ _ (.fu Ev.cD .tB _ _ _) _);refine K4 ?_ (h1:=rj))
  | ((with_reducible show JE _ _ _ _ _ _ (.bi .sorted _) _);refine vn (x:="sorted") (id:="sorted") (λX g=>Dp) ?_ (hb:=rj) (hv:=by kernel_rfl))
  | ((with_reducible show JS _ _ _ _ _ _ (.set _ _) _);refine WL ?_ ?_;kernel_rfl)
  | ((with_reducible show JT _ _ _ _ _ _ _ _);refine Nk ?_))
end
def pI{α:Type _}{l:List α}(h:l.length=1):∃a,l=[a]:=by
 rcases l with _|⟨a,_|⟨b,l⟩⟩<;>simp at h ⊢
def jf{α:Type _}{l:List α}(h:l.length=2):∃a b,l=[a,b]:=by
 rcases l with _|⟨a,l⟩
 .simp at h
 .obtain⟨b,rfl⟩:=pI (l:=l) (by simpa using h);exact⟨a,b,rfl⟩
def pJ{α:Type _}{l:List α}(h:l.length=3):∃a b c,l=[a,b,c]:=by
 rcases l with _|⟨a,l⟩
 .simp at h
 .obtain⟨b,c,rfl⟩:=jf (l:=l) (by simpa using h);exact⟨a,b,c,rfl⟩
def W3{α:Type _}{l:List α}(h:l.length=4):∃a b c d,l=[a,b,c,d]:=by
 rcases l with _|⟨a,l⟩
 .simp at h
 .obtain⟨b,c,d,rfl⟩:=pJ (l:=l) (by simpa using h);exact⟨a,b,c,d,rfl⟩
structure Fg(K:PySem.W.Frag)(x:Str)(i:Nat)(p:Addr)(d:FuncData):Prop where
 a:PySem.W.nsIn K mainGlobals x=some (some (.ref p))
 f:v5 K x x (top i) p d
def Fg.t{K:PySem.W.Frag}{h:Heap}{mg:Str->Option Value}{x:Str}{i:Nat}{p:Addr}{d:FuncData}{ps:List Str}(F:Fg K x i p d)(X:K.In h)(G:h.Ns mainGlobals mg)(b:Binds K d ps []):mg x=some (.ref p)/\PySem.W.keepIn K (.ref p)=true/\Binds K d ps []:=⟨abX X G F.a,F.f.kp,b⟩
def all_mk {l:PySem.W.OpenLaw}{w:World}{K:PySem.W.Frag}{h:Heap}{mg:Str->Option Value}{fa p0 p1 p2 p3 p4 p5 p6 p7 p8 p9 Vp Vq Vr Vs Vt Vu Vv Vw Vx Vy Vz VA VB VC VD VE VF RH:Addr}{d0 d1 d2 d3 d4 d5 d6 d7 d8 d9 VG VH VI VJ VL VM VN VO VP VQ VR VS VT VU VW VX VY RI:FuncData}(X:K.In h) (G:h.Ns mainGlobals mg) (YW:mg "law" = some (.ref fa))
  (F0:Fg K "size" 1 p0 d0)
  (F1:Fg K "before" 2 p1 d1)
  (F2:Fg K "after" 3 p2 d2)
  (F3:Fg K "form" 4 p3 d3)
  (F4:Fg K "stretch" 5 p4 d4)
  (F5:Fg K "fits" 10 p5 d5)
  (F6:Fg K "done" 11 p6 d6)
  (F7:Fg K "nothing" 12 p7 d7)
  (F8:Fg K "then" 13 p8 d8)
  (F9:Fg K "all_then" 14 p9 d9)
  (RJ:Fg K "met" 15 Vp VG)
  (RK:Fg K "taken" 16 Vq VH)
  (RL:Fg K "parted" 17 Vr VI)
  (RM:Fg K "owners" 19 Vs VJ)
  (RN:Fg K "shares" 20 Vt VL)
  (RP:Fg K "lost" 21 Vu VM)
  (RQ:Fg K "traced" 22 Vv VN)
  (RS:Fg K "traced_once" 23 Vw VO)
  (RT:Fg K "counted" 24 Vx VP)
  (RU:Fg K "_law_cell" 26 Vy VQ)
  (RW:Fg K "_law_drawn" 27 Vz VR)
  (RX:Fg K "_law_text" 28 VA VS)
  (RY:Fg K "_law_change" 29 VB VT)
  (R0:Fg K "_law_made" 30 VC VU)
  (R4:Fg K "_law_small" 31 VD VW)
  (R5:Fg K "_law_rows" 32 VE VX)
  (R6:Fg K "_law_named" 33 VF VY)
  (EX:Fg K "law" 34 RH RI)
  (z0:PySem.W.nsIn K mainGlobals "dict" = some none)
  (z1:PySem.W.nsIn K mainGlobals "len" = some none)
  (z2:PySem.W.nsIn K mainGlobals "list" = some none)
  (z3:PySem.W.nsIn K mainGlobals "min" = some none)
  (z4:PySem.W.nsIn K mainGlobals "range" = some none)
  (z5:PySem.W.nsIn K mainGlobals "reversed" = some none)
  (z6:PySem.W.nsIn K mainGlobals "set" = some none)
  (z7:PySem.W.nsIn K mainGlobals "sorted" = some none)
  (z8:PySem.W.nsIn K mainGlobals "sum" = some none)
  (z9:PySem.W.nsIn K mainGlobals "tuple" = some none)
  {t0:Tok} (q0:PySem.W.nsIn K mainGlobals "__name__" = some (some (.str "law_pastways_k44_whole_owners" t0)))
  : ∃fd:FuncData,(∀(s:Shared) (v:Value),BindsTo s fd ⟨[v],[]⟩ [("_law_script",v)])/\∀base:Heap,K.In base->base.Ns mainGlobals mg->jk l.prog w K mg base oH 60 fa fd ["_law_script"] (qu K prog 100000 60 27):=by
 have e:=YW.symm.trans (abX X G EX.a);have p:RH=fa:=by injection e with e;injection e with e;exact e.symm
 subst p
 let aa:Nat->Addr:=λk=>[p0,p1,p2,p3,p4,p5,p6,p7,p8,p9,Vp,Vq,Vr,Vs,Vt,Vu,Vv,Vw,Vx,Vy,Vz,VA,VB,VC,VD,VE,VF,RH].getD k p0
 let dd:Nat->FuncData:=λk=>[d0,d1,d2,d3,d4,d5,d6,d7,d8,d9,VG,VH,VI,VJ,VL,VM,VN,VO,VP,VQ,VR,VS,VT,VU,VW,VX,VY,RI].getD k d0
 have T:Top l.prog w K mg (tb aa dd):=by
  refine⟨λf i b=>(show ∀i∈(tb aa dd).fi,mg i.name=some (.ref i.addr)/\PySem.W.keepIn K (.ref i.addr)=true/\Binds K i.fd i.ps []from ?_) i (aag b),?_,?_,?_⟩
  .refine List.forall_mem_cons.mpr ⟨F0.t X G (F0.f.binds λ_ _ _ _ _ _ g c=>by obtain⟨_,rfl⟩:=pI c;rfl),?_⟩;refine List.forall_mem_cons.mpr ⟨F1.t X G (F1.f.binds λ_ _ _ _ _ _ g c=>by obtain⟨_,rfl⟩:=pI c;rfl),?_⟩;refine List.forall_mem_cons.mpr ⟨F2.t X G (F2.f.binds λ_ _ _ _ _ _ g c=>by obtain⟨_,rfl⟩:=pI c;rfl),?_⟩;refine List.forall_mem_cons.mpr ⟨F3.t X G (F3.f.binds λ_ _ _ _ _ _ g c=>by obtain⟨_,rfl⟩:=pI c;rfl),?_⟩;refine List.forall_mem_cons.mpr ⟨F4.t X G (F4.f.binds λ_ _ _ _ _ _ g c=>by obtain⟨_,_,_,rfl⟩:=pJ c;rfl),?_⟩;refine List.forall_mem_cons.mpr ⟨F5.t X G (F5.f.binds λ_ _ _ _ _ _ g c=>by obtain⟨_,_,rfl⟩:=jf c;rfl),?_⟩;refine List.forall_mem_cons.mpr ⟨F6.t X G (F6.f.binds λ_ _ _ _ _ _ g c=>by obtain⟨_,_,rfl⟩:=jf c;rfl),?_⟩;refine List.forall_mem_cons.mpr ⟨F7.t X G (F7.f.binds λ_ _ _ _ _ _ g c=>by obtain⟨_,rfl⟩:=pI c;rfl),?_⟩;refine List.forall_mem_cons.mpr ⟨F8.t X G (F8.f.binds λ_ _ _ _ _ _ g c=>by obtain⟨_,_,rfl⟩:=jf c;rfl),?_⟩;refine List.forall_mem_cons.mpr ⟨F9.t X G (F9.f.binds λ_ _ _ _ _ _ g c=>by obtain⟨_,_,rfl⟩:=jf c;rfl),?_⟩;refine List.forall_mem_cons.mpr ⟨RJ.t X G (RJ.f.binds λ_ _ _ _ _ _ g c=>by obtain⟨_,_,rfl⟩:=jf c;rfl),?_⟩;refine List.forall_mem_cons.mpr ⟨RK.t X G (RK.f.binds λ_ _ _ _ _ _ g c=>by obtain⟨_,_,rfl⟩:=jf c;rfl),?_⟩;refine List.forall_mem_cons.mpr ⟨RL.t X G (RL.f.binds λ_ _ _ _ _ _ g c=>by obtain⟨_,_,rfl⟩:=jf c;rfl),?_⟩;refine List.forall_mem_cons.mpr ⟨RM.t X G (RM.f.binds λ_ _ _ _ _ _ g c=>by obtain⟨_,_,rfl⟩:=jf c;rfl),?_⟩;refine List.forall_mem_cons.mpr ⟨RN.t X G (RN.f.binds λ_ _ _ _ _ _ g c=>by obtain⟨_,_,rfl⟩:=jf c;rfl),?_⟩;refine List.forall_mem_cons.mpr ⟨RP.t X G (RP.f.binds λ_ _ _ _ _ _ g c=>by obtain⟨_,_,rfl⟩:=jf c;rfl),?_⟩;refine List.forall_mem_cons.mpr ⟨RQ.t X G (RQ.f.binds λ_ _ _ _ _ _ g c=>by obtain⟨_,_,rfl⟩:=jf c;rfl),?_⟩;refine List.forall_mem_cons.mpr ⟨RS.t X G (RS.f.binds λ_ _ _ _ _ _ g c=>by obtain⟨_,_,_,rfl⟩:=pJ c;rfl),?_⟩;refine List.forall_mem_cons.mpr ⟨RT.t X G (RT.f.binds λ_ _ _ _ _ _ g c=>by obtain⟨_,rfl⟩:=pI c;rfl),?_⟩;refine List.forall_mem_cons.mpr ⟨RU.t X G (RU.f.binds λ_ _ _ _ _ _ g c=>by obtain⟨_,_,rfl⟩:=jf c;rfl),?_⟩;refine List.forall_mem_cons.mpr ⟨RW.t X G (RW.f.binds λ_ _ _ _ _ _ g c=>by obtain⟨_,_,_,rfl⟩:=pJ c;rfl),?_⟩;refine List.forall_mem_cons.mpr ⟨RX.t X G (RX.f.binds λ_ _ _ _ _ _ g c=>by obtain⟨_,_,_,rfl⟩:=pJ c;rfl),?_⟩;refine List.forall_mem_cons.mpr ⟨RY.t X G (RY.f.binds λ_ _ _ _ _ _ g c=>by obtain⟨_,_,_,rfl⟩:=pJ c;rfl),?_⟩;refine List.forall_mem_cons.mpr ⟨R0.t X G (R0.f.binds λ_ _ _ _ _ _ g c=>by obtain⟨_,_,rfl⟩:=jf c;rfl),?_⟩;refine List.forall_mem_cons.mpr ⟨R4.t X G (R4.f.binds λ_ _ _ _ _ _ g c=>by obtain⟨_,_,_,rfl⟩:=pJ c;rfl),?_⟩;refine List.forall_mem_cons.mpr ⟨R5.t X G (R5.f.binds λ_ _ _ _ _ _ g c=>by obtain⟨_,_,_,_,rfl⟩:=W3 c;rfl),?_⟩;refine List.forall_mem_cons.mpr ⟨R6.t X G (R6.f.binds λ_ _ _ _ _ _ g c=>by obtain⟨_,_,_,rfl⟩:=pJ c;rfl),?_⟩;refine List.forall_mem_cons.mpr ⟨EX.t X G (EX.f.binds λ_ _ _ _ _ _ g c=>by obtain⟨_,rfl⟩:=pI c;rfl),?_⟩;exact λ_ h=>nomatch h
  .exact(show ∀x∈nZ,mg x=none from List.forall_mem_cons.mpr ⟨aa0 X G z0,List.forall_mem_cons.mpr ⟨aa0 X G z1,List.forall_mem_cons.mpr ⟨aa0 X G z2,List.forall_mem_cons.mpr ⟨aa0 X G z3,List.forall_mem_cons.mpr ⟨aa0 X G z4,List.forall_mem_cons.mpr ⟨aa0 X G z5,List.forall_mem_cons.mpr ⟨aa0 X G z6,List.forall_mem_cons.mpr ⟨aa0 X G z7,List.forall_mem_cons.mpr ⟨aa0 X G z8,List.forall_mem_cons.mpr ⟨aa0 X G z9,λ_ h=>nomatch h⟩⟩⟩⟩⟩⟩⟩⟩⟩⟩)
  .exact λx d o=>(show ∀y∈(tb aa dd).cs,∃v u,mg y.1=some u/\RelV v u/\zJ K y.2 v from List.forall_mem_cons.mpr ⟨⟨.str "law_pastways_k44_whole_owners",_,abX X G q0,⟨_,rfl⟩,λ_ _=>⟨by decide +kernel,by decide⟩⟩,λ_ h=>nomatch h⟩) (x,d) o
  .exact λx d o=>(show ∀y∈(tb aa dd).dk,∃a,mg y.1=some (.ref a)/\∀h:Heap,K.In h->StrTab l.prog w h a (tabOf y.2)from λ_ h=>nomatch h) (x,d) o
 refine⟨RI,λs v=>?_,λbase _ _=>?_⟩
 .obtain⟨oc,A,kV,q,B,C,r,F,z,e,_⟩:=EX.f.ex;rw[e];exact .of_eq rfl
 refine Dt (P:=l.prog) (w:=w) (base:=base) T (λn A0 f i b=>?_) 60 27 (Jy aa dd) rfl
 match f,b with
 |0,b=>obtain rfl:i0 aa dd=i:=W0 b;exact cK (i:=i0 aa dd) T A0 F0.f s0 rfl rfl (@allB.get _ _ _ 0 (f0.body,top 1,n0) dS rfl)
 |1,b=>obtain rfl:i1 aa dd=i:=W0 b;exact cK (i:=i1 aa dd) T A0 F1.f s1 rfl rfl (@allB.get _ _ _ 1 (f1.body,top 2,n1) dS rfl)
 |2,b=>obtain rfl:i2 aa dd=i:=W0 b;exact cK (i:=i2 aa dd) T A0 F2.f s2 rfl rfl (@allB.get _ _ _ 2 (f2.body,top 3,n2) dS rfl)
 |3,b=>obtain rfl:i3 aa dd=i:=W0 b;exact cK (i:=i3 aa dd) T A0 F3.f s3 rfl rfl (@allB.get _ _ _ 3 (f3.body,top 4,n3) dS rfl)
 |4,b=>obtain rfl:i4 aa dd=i:=W0 b;exact cK (i:=i4 aa dd) T A0 F4.f s4 rfl rfl (@allB.get _ _ _ 4 (f4.body,top 5,n4) dS rfl)
 |5,b=>obtain rfl:i5 aa dd=i:=W0 b;exact cK (i:=i5 aa dd) T A0 F5.f s5 rfl rfl (@allB.get _ _ _ 5 (f5.body,top 10,n5) dS rfl)
 |6,b=>obtain rfl:i6 aa dd=i:=W0 b;exact cK (i:=i6 aa dd) T A0 F6.f s6 rfl rfl (@allB.get _ _ _ 6 (f6.body,top 11,n6) dS rfl)
 |7,b=>obtain rfl:i7 aa dd=i:=W0 b;exact cK (i:=i7 aa dd) T A0 F7.f s7 rfl rfl (@allB.get _ _ _ 7 (f7.body,top 12,n7) dS rfl)
 |8,b=>obtain rfl:i8 aa dd=i:=W0 b;exact cK (i:=i8 aa dd) T A0 F8.f s8 rfl rfl (@allB.get _ _ _ 8 (f8.body,top 13,n8) dS rfl)
 |9,b=>obtain rfl:i9 aa dd=i:=W0 b;exact cK (i:=i9 aa dd) T A0 F9.f s9 rfl rfl (@allB.get _ _ _ 9 (f9.body,top 14,n9) dS rfl)
 |10,b=>obtain rfl:Q0 aa dd=i:=W0 b;exact cK (i:=Q0 aa dd) T A0 RJ.f US rfl rfl (@allB.get _ _ _ 10 (Dc.body,top 15,Rl) dS rfl)
 |11,b=>obtain rfl:Q2 aa dd=i:=W0 b;exact cK (i:=Q2 aa dd) T A0 RK.f Ik rfl rfl (@allB.get _ _ _ 11 (QM.body,top 16,Rm) dS rfl)
 |12,b=>obtain rfl:i12 aa dd=i:=W0 b;exact cK (i:=i12 aa dd) T A0 RL.f s12 rfl rfl (@allB.get _ _ _ 12 (QN.body,top 17,Rn) dS rfl)
 |13,b=>obtain rfl:Q3 aa dd=i:=W0 b;exact cK (i:=Q3 aa dd) T A0 RM.f YH rfl rfl (@allB.get _ _ _ 13 (ER.body,top 19,Ro) dS rfl)
 |14,b=>obtain rfl:Q4 aa dd=i:=W0 b;exact cK (i:=Q4 aa dd) T A0 RN.f YI rfl rfl (@allB.get _ _ _ 14 (ES.body,top 20,Rp) dS rfl)
 |15,b=>obtain rfl:Q5 aa dd=i:=W0 b;exact cK (i:=Q5 aa dd) T A0 RP.f EW rfl rfl (@allB.get _ _ _ 15 (ET.body,top 21,Rq) dS rfl)
 |16,b=>obtain rfl:Q6 aa dd=i:=W0 b;exact cK (i:=Q6 aa dd) T A0 RQ.f YJ rfl rfl (@allB.get _ _ _ 16 (QO.body,top 22,Rt) dS rfl)
 |17,b=>obtain rfl:Q7 aa dd=i:=W0 b;exact cK (i:=Q7 aa dd) T A0 RS.f YK rfl rfl (@allB.get _ _ _ 17 (QS.body,top 23,Ru) dS rfl)
 |18,b=>obtain rfl:Q8 aa dd=i:=W0 b;exact cK (i:=Q8 aa dd) T A0 RT.f YL rfl rfl (@allB.get _ _ _ 18 (QT.body,top 24,Rw) dS rfl)
 |19,b=>obtain rfl:Q9 aa dd=i:=W0 b;exact cK (i:=Q9 aa dd) T A0 RU.f YM rfl rfl (@allB.get _ _ _ 19 (QU.body,top 26,Rx) dS rfl)
 |20,b=>obtain rfl:Ra aa dd=i:=W0 b;exact cK (i:=Ra aa dd) T A0 RW.f YN rfl rfl (@allB.get _ _ _ 20 (QV.body,top 27,Ry) dS rfl)
 |21,b=>obtain rfl:Rb aa dd=i:=W0 b;exact cK (i:=Rb aa dd) T A0 RX.f YO rfl rfl (@allB.get _ _ _ 21 (QW.body,top 28,Rz) dS rfl)
 |22,b=>obtain rfl:Rc aa dd=i:=W0 b;exact cK (i:=Rc aa dd) T A0 RY.f YQ rfl rfl (@allB.get _ _ _ 22 (QX.body,top 29,RA) dS rfl)
 |23,b=>obtain rfl:Rf aa dd=i:=W0 b;exact cK (i:=Rf aa dd) T A0 R0.f YR rfl rfl (@allB.get _ _ _ 23 (QY.body,top 30,RB) dS rfl)
 |24,b=>obtain rfl:Rg aa dd=i:=W0 b;exact cK (i:=Rg aa dd) T A0 R4.f YS rfl rfl (@allB.get _ _ _ 24 (QZ.body,top 31,RC) dS rfl)
 |25,b=>obtain rfl:Rh aa dd=i:=W0 b;exact cK (i:=Rh aa dd) T A0 R5.f YT rfl rfl (@allB.get _ _ _ 25 (yJ.body,top 32,RD) dS rfl)
 |26,b=>obtain rfl:Ri aa dd=i:=W0 b;exact cK (i:=Ri aa dd) T A0 R6.f YU rfl rfl (@allB.get _ _ _ 26 (EU.body,top 33,RE) dS rfl)
 |27,b=>obtain rfl:Jy aa dd=i:=W0 b;exact cK (i:=Jy aa dd) T A0 EX.f YV rfl rfl (@allB.get _ _ _ 27 (EV.body,top 34,RG) dS rfl)
 |j+28,b=>exact nomatch (show(none:Option FI)=some i from b)
end Lw
namespace Lg
open Pv
open Ev (deep big rep cut bU fJ cV mw)
noncomputable abbrev Ps:=List (List Nat×Int)
noncomputable def dv(ps:Ps)(k:List Nat):Int:=(cV ps k).getD 0
noncomputable def ks(ps:Ps):List (List Nat):=ps.map (·.1)
theorem A4{k:List Nat}{v:Int}{s:List Nat}:∀(ps:Ps),cV (ps.map λp=>if p.1=k then (p.1,v)else p) s=if s=k then (cV ps s).map λ_=>v else cV ps s
 |[]=>by simp[cV]
 |p :: ps=>by
  have b:=A4 (k:=k) (v:=v) (s:=s) ps;simp only[aai,cV];by_cases h:p.1=k
  .simp only[h,aax];by_cases a:k=s
   .subst a;simp
   .rw[aaj a,aaj a,b,aaj (abk a)]
  .simp only[h,aaZ];by_cases a:p.1=s
   .have:s≠k:=λe=>h (a.trans e);simp[a,this]
   .simp only[a,aaZ];exact b
theorem A5{k:List Nat}{v:Int}{s:List Nat}:∀(ps:Ps),cV (ps++[(k,v)]) s=match cV ps s with|some x=>some x|none=>if k=s then some v else none
 |[]=>by simp[cV]
 |p :: ps=>by
  simp only[aaS,cV];by_cases h:p.1=s
  .simp[h]
  .simp only[h,aaZ];exact A5 ps
theorem mT{s:List Nat}:∀(ps:Ps),(cV ps s).isSome=true↔s∈ks ps
 |[]=>by simp[cV,ks]
 |p :: ps=>by
  have a:=mT (s:=s) ps;simp only[cV,ks,aai,acV]at a ⊢;by_cases h:p.1=s
  .simp[h]
  .simp only[h,aaZ];rw[a];simp[abk h]
def EY{k:List Nat}(ps:Ps):(ps.any λp=>decide (p.1=k))=decide (k∈ks ps):=by
 rw[Bool.eq_iff_iff,aa4];simp[ks]
def R7(ps:Ps)(k:List Nat)(v:Int):ks (fJ ps k v)=if k∈ks ps then ks ps else ks ps++[k]:=by
 unfold fJ;rw[EY];by_cases h:k∈ks ps
 .simp only[h,decide_true,aax];unfold ks;rw[ab0];exact List.map_congr_left λp _=>by simp only[Function.comp];split<;>rfl
 .simp only[h,decide_false,aaZ,aay];simp[ks]
def L4(ps:Ps)(k:List Nat)(v:Int)(s:List Nat):cV (fJ ps k v) s=if s=k then some v else cV ps s:=by
 unfold fJ;rw[EY];by_cases h:k∈ks ps
 .simp only[h,decide_true,aax];rw[A4];by_cases e:s=k
  .subst e;simp only[aax];obtain⟨x,a⟩:=Option.isSome_iff_exists.mp ((mT ps).mpr h);rw[a];rfl
  .simp[e]
 .simp only[h,decide_false,aaZ,aay];rw[A5];by_cases e:s=k
  .subst e;have:cV ps s=none:=by
    cases q:cV ps s with
    |none=>rfl
    |some x=>exact absurd ((mT ps).mp (by rw[q];rfl)) h
   simp[this]
  .simp only[e,abk e,aaZ];split<;>simp_all
noncomputable def inc(ps:Ps)(q:List Nat×Int):Ps:=fJ ps q.1 (dv ps q.1+q.2)
def R8(ps:Ps)(q:List Nat×Int)(s:List Nat):dv (inc ps q) s=dv ps s+if q.1=s then q.2 else 0:=by
 unfold dv inc;rw[L4];by_cases e:s=q.1
 .subst e;simp[dv]
 .simp[e,abk e]
theorem tY(s:List Nat):∀(l:Ps) (ps:Ps),dv (l.foldl inc ps) s=dv ps s+(l.map λq=>if q.1=s then q.2 else 0).sum
 |[],ps=>by simp
 |q :: l,ps=>by rw[aaL,tY s l,R8,aai,List.sum_cons];omega
theorem mU:∀(l:Ps) (ps:Ps),ks (l.foldl inc ps)=(ks l).foldl (λa k=>if k∈a then a else a++[k]) (ks ps)
 |[],ps=>rfl
 |q :: l,ps=>by
  rw[aaL,mU l];show _=List.foldl _ _ (q.1 :: ks l);rw[aaL];unfold inc;rw[R7]
noncomputable def kP(l:List Ow):Ps:=(K3.filter λs=>decide (s∈aV l)).map λs=>(s,(((aV l).count s:Nat):Int))
def R9(l:List Ow):mw (kP l)=kP l:=by
 unfold kP mw K3;by_cases a:[97,110,110]∈aV l<;>by_cases b:[98,111]∈aV l<;>by_cases c:[99]∈aV l<;>simp[a,b,c,fJ]
def Sa(l:List Ow)(s:List Nat)(hs:s∈K3):((kP l).map λq=>if q.1=s then q.2 else 0).sum=(((aV l).count s:Nat):Int):=by
 have z:∀x,x∉aV l->(aV l).count x=0:=λx h=>List.count_eq_zero.mpr h;unfold kP;simp only[K3,acV,List.not_mem_nil,or_false]at hs;by_cases a:[97,110,110]∈aV l<;>by_cases b:[98,111]∈aV l<;>by_cases c:[99]∈aV l<;>rcases hs with rfl|rfl|rfl<;>simp[K3,a,b,c,z]
def Ut(l:List Ow)(s:List Nat)(hs:s∈K3):dv (kP l) s=(((aV l).count s:Nat):Int):=by
 have z:∀x,x∉aV l->(aV l).count x=0:=λx h=>List.count_eq_zero.mpr h;unfold kP dv;simp only[K3,acV,List.not_mem_nil,or_false]at hs;by_cases a:[97,110,110]∈aV l<;>by_cases b:[98,111]∈aV l<;>by_cases c:[99]∈aV l<;>rcases hs with rfl|rfl|rfl<;>simp[K3,a,b,c,z,cV]
def sR:∀f:List Nat->Bool,K3.filter f∈iz:=λf=>by
 have:∀a b c:Bool,([([97,110,110],a),([98,111],b),([99],c)].filter (·.2)).map (·.1)∈iz:=by decide
 have h:=this (f [97,110,110]) (f [98,111]) (f [99]);have e:K3.filter f=([([97,110,110],f [97,110,110]),([98,111],f [98,111]),([99],f [99])].filter (·.2)).map (·.1):=by
  cases h1:f [97,110,110]<;>cases h2:f [98,111]<;>cases h3:f [99]<;>simp[K3,h1,h2,h3]
 rw[e];exact h
def Sb:∀a∈iz,∀b∈iz,a.filter (λx=>decide (x∈b))∈iz:=by decide
def Jz:∀a∈iz,∀x∈a,x∈K3:=by decide
def JB{a:List (List Nat)}(h:a∈iz)(f:List Nat->Bool):a.filter f∈iz:=by
 have e:a.filter f=a.filter λx=>decide (x∈K3.filter f):=List.filter_congr λx b=>by
  rw[Bool.eq_iff_iff,aa4,List.mem_filter];exact⟨λq=>⟨Jz a h x b,q⟩,λq=>q.2⟩
 rw[e];exact Sb a h _ (sR f)
def Uu{a b:List (List Nat)}(ha:a∈iz)(hb:b∈iz)(h:∀s∈K3,s∈a↔s∈b):Ev.br a=Ev.br b:=by
 rw[(pG a ha).1,(pG b hb).1];exact List.filter_congr λx c=>decide_eq_decide.mpr (h x c)
noncomputable def jg:List Pt->Nat
 |[]=>0
 |.put s :: c=>s.length+jg c
 |_ :: c=>jg c
def kN(a b:List Ow):aV (a++b)=aV a++aV b:=List.filterMap_append
def L5(o x s:List Nat):(aV (aW o x)).count s=if o=s then x.length else 0:=by
 have:aV (aW o x)=List.replicate x.length o:=by
  unfold aV aW;rw[List.filterMap_map];induction x with
  |nil=>rfl
  |cons d x a=>simp_all [aak,Function.comp_def]
 rw[this,List.count_replicate];simp
def A6(st:List Ow)(k:Nat)(s:List Nat):(aV (st.take k)).count s+(aV (st.drop k)).count s=(aV st).count s:=by
 conv=>rhs;rw[<-acO k st,kN,List.count_append]
def gS(k:Nat)(c:List Pt):ay (.keep k :: c)=k+ay c:=by simp[ay,tot,cL,Pt.n]
def iC(s:List Nat)(c:List Pt):ay (.drop s :: c)=s.length+ay c:=by simp[ay,tot,cL,Pt.n]
def gT(s:List Nat)(c:List Pt):ay (.put s :: c)=ay c:=by simp[ay,tot,cL,Pt.n]
theorem nJ(o s:List Nat):∀(c:List Pt) (st:List Ow),ay c=st.length->(aV (bN (aW o) c st)).count s+(aV (eL c st)).count s=(aV st).count s+if o=s then jg c else 0
 |[],st,h=>by
  have:st=[]:=List.length_eq_zero_iff.mp (by rw[<-h];rfl);subst this;simp[bN,eL,aV,jg]
 |.put x :: c,st,h=>by
  have a:=nJ o s c st (by rw[<-h,gT]);simp only[bN,eL,jg,kN,List.count_append,L5];by_cases e:o=s
  .simp only[e,aax]at a ⊢;omega
  .simp only[e,aaZ]at a ⊢;omega
 |.keep k :: c,st,h=>by
  rw[gS]at h;have a:=nJ o s c (st.drop k) (by simp;omega);have:=A6 st k s;simp only[bN,eL,jg,kN,List.count_append];omega
 |.drop x :: c,st,h=>by
  rw[iC]at h;have a:=nJ o s c (st.drop x.length) (by simp;omega);have:=A6 st x.length s;simp only[bN,eL,jg,kN,List.count_append];omega
theorem all_cons(s:List Nat):∀(rs:List Row) (st:List Ow) (t:List Nat),st.length=t.length->Ch t (bx rs)->(aV (cg aW rs st)).count s+(aV (eY aW rs st)).count s=(aV st).count s+(rs.map λr=>if r.1=s then jg r.2 else 0).sum
 |[],st,t,h,_=>by simp[cg,eY,aV]
 |r :: rs,st,t,h,hc=>by
  obtain⟨a,b⟩:=(show aZ r.2 t=true/\Ch (aC r.2 t) (bx rs)from hc)
  have c:=nJ r.1 s r.2 st (by rw[h,gW a]);have d:=all_cons s rs (bN (aW r.1) r.2 st) (aC r.2 t) (jx (λx=>by simp[aW]) r.2 st t h) b;simp only[cg,eY,kN,List.count_append,aai,List.sum_cons];omega
theorem rq:∀l:List Ow,(aV l).length+(l.filter Option.isNone).length=l.length
 |[]=>rfl
 |none :: l=>by have:=rq l;simp[aV]at this ⊢;omega
 |some x :: l=>by have:=rq l;simp[aV]at this ⊢;omega
theorem A7:∀l:List Ow,cnt .aD (l.map Ow.v)=some (l.filter Option.isNone).length
 |[]=>rfl
 |a :: l=>by
  have e:dB deep a.v V.aD=some a.isNone:=by cases a<;>rfl
  simp only[aai,cnt,e,A7 l];cases a<;>simp
theorem A8:∀l:List (List Nat),(∀x∈l,x∈K3)->(K3.map λs=>l.count s).sum=l.length
 |[],_=>rfl
 |x :: l,h=>by
  have b:=A8 l λy c=>h y (by simp[c]);have a:=h x (by simp);simp only[K3,acV,List.not_mem_nil,or_false]at a;simp only[K3,aai,aco,List.sum_cons,List.sum_nil,aal]at b ⊢;rcases a with rfl|rfl|rfl<;>simp[List.count_cons]<;>omega
def Sd{l:List Ow}(h:∀x∈aV l,x∈K3):((kP l).map (·.2)).sum=(((aV l).length:Nat):Int):=by
 have z:∀x,x∉aV l->(aV l).count x=0:=λx h=>List.count_eq_zero.mpr h;rw[<-A8 (aV l) h];unfold kP;by_cases a:[97,110,110]∈aV l<;>by_cases b:[98,111]∈aV l<;>by_cases c:[99]∈aV l<;>simp[K3,a,b,c,z]<;>omega
noncomputable def pD(rs:List Row):Ps:=(rs.map λr=>(r.1,((jg r.2:Nat):Int))).foldl inc []
noncomputable def bD(a b:List Ow):Ps:=(kP b).foldl inc (kP a)
def oh(l:List Ow):Prop:=∀s,some s∈l->s∈K3
def A9{l:List Ow}(h:oh l):∀x∈aV l,x∈K3:=λk b=>by
 unfold aV at b;obtain⟨a,d,c⟩:=List.mem_filterMap.mp b;simp only[id]at c;subst c;exact h k d
def nK(l:List Ow):ks (kP l)=K3.filter λs=>decide (s∈aV l):=by unfold ks kP;rw[ab0];exact List.map_id _
def HJ{rs:List Row}(h:∀r∈rs,r.1∈K3):ks (pD rs)∈iz:=by
 unfold pD;rw[mU];refine pH _ _ (by decide) λk a=>?_;simp only[ks,ab0,List.mem_map]at a;obtain⟨r,b,rfl⟩:=a;exact h r b
def HK(a b:List Ow):ks (bD a b)∈iz:=by
 unfold bD;rw[mU,nK];exact pH _ _ (sR _) λk c=>by rw[nK]at c;exact(List.mem_filter.mp c).1
def JD(a b:List Ow){s:List Nat}(hs:s∈K3):dv (bD a b) s=(((aV a).count s+(aV b).count s:Nat):Int):=by
 unfold bD;rw[tY,Ut a s hs,Sa b s hs];omega
def Se(a b:List Ow){s:List Nat}(hs:s∈K3):s∈ks (bD a b)↔0<(aV a).count s+(aV b).count s:=by
 unfold bD;rw[mU,yI,nK,nK,List.mem_filter,List.mem_filter];have c:=List.count_pos_iff (a:=s) (l:=aV a);have d:=List.count_pos_iff (a:=s) (l:=aV b);simp only[aa4,hs,true_and];rw[<-c,<-d];omega
def Uv(rs:List Row)(s:List Nat):dv (pD rs) s=(((rs.map λr=>if r.1=s then jg r.2 else 0).sum:Nat):Int):=by
 unfold pD;rw[tY,ab0];have:dv [] s=0:=rfl;rw[this];induction rs with
 |nil=>rfl
 |cons r rs a=>
  simp only[aai,List.sum_cons,Function.comp]at a ⊢;by_cases e:r.1=s
  .simp only[e,aax];omega
  .simp only[e,aaZ];omega
def yX{ps:Ps}{s:List Nat}(h:s∈ks ps):cV ps s=some (dv ps s):=by
 obtain⟨x,a⟩:=Option.isSome_iff_exists.mp ((mT ps).mpr h);unfold dv;rw[a];rfl
def EZ{ps:Ps}{s:List Nat}(h:dv ps s≠0):s∈ks ps:=by
 refine(mT ps).mp ?_;unfold dv at h;cases q:cV ps s with
 |none=>rw[q]at h;exact absurd rfl h
 |some x=>rfl
def two{t:List Nat}{rs:List Row}(hc:Ch t (bx rs))(h3:∀r∈rs,r.1∈K3) :
  (Ev.br (ks (bD (cg aW rs (bw t)) (eY aW rs (bw t))))=Ev.br ((ks (pD rs)).filter λs=>decide (0<dv (pD rs) s)))/\
  ∀s∈ks (bD (cg aW rs (bw t)) (eY aW rs (bw t))),s∈ks (pD rs)/\dv (bD (cg aW rs (bw t)) (eY aW rs (bw t))) s=dv (pD rs) s:=by
 have b:=λs=>all_cons s rs (bw t) t (by simp[bw]) hc;have d:aV (bw t)=[]:=by unfold aV bw;simp
 have z:∀s,(aV (bw t)).count s=0:=λs=>by rw[d];rfl
 have e:∀s∈K3,dv (bD (cg aW rs (bw t)) (eY aW rs (bw t))) s=dv (pD rs) s:=λs a=>by
  rw[JD _ _ a,Uv];have:=b s;rw[z]at this;omega
 have m:∀s∈K3,s∈ks (bD (cg aW rs (bw t)) (eY aW rs (bw t)))↔0<dv (pD rs) s:=λs a=>by
  rw[<-e s a,JD _ _ a,Se _ _ a];omega
 refine⟨Uu (HK _ _) (JB (HJ h3) _) λs a=>?_,λs a=>?_⟩
 .rw[m s a,List.mem_filter,aa4];exact⟨λq=>⟨EZ (by omega),q⟩,λq=>q.2⟩
 .have c:=Jz _ (HK _ _) s a;exact⟨EZ (by have:=(m s c).mp a;omega),e s c⟩
end Lg
namespace Lg
open Pv
open Lw (prog ER ES ET yJ EU EV Js Ck Cn Co Jt Ju Jv Jw Jx Cm yK yL yN yO yP yQ yR yS yT yU yV yW)
open Ev (deep big rep cut bU fJ cV mw)
section
variable{w n:Nat}{ns:List Int}
section
variable{t:List Nat}{rs:List Row}{v:V}
def yY(R:jW t rs):run prog w (n+7) 16 [.val (.str t),.val (.lst (rs.map cF))]=some (.tup [.lst ((cg aW rs (bw t)).map Ow.v),.lst ((eY aW rs (bw t)).map Ow.v)],[]):=Cj (F:=prog) (aK:=0) (iw:=5) (mP:=6) (pC:=17) (i:=16) (w:=w) (n:=n) rfl rfl rfl rfl rfl R
def E2{l:List Ow}(hl:l.length<=2000)(hk:oh l):run prog w (n+7) 18 [.val (.lst (l.map Ow.v))]=some (.lst ((kP l).map dX),[]):=by
 obtain⟨a,b⟩:=Uo (A9 hk);have:=zu (F:=prog) (i:=18) (w:=w) (n:=n+6) rfl hl (by omega);rw[a]at this;rw[this];unfold kP;rw[ab0];rfl
def pK(R:jW t rs):run prog w (n+8) 13 [.val (.str t),.val (.lst (rs.map cF))]=some (.lst ((cg aW rs (bw t)).map Ow.v),[]):=
 bZ (fn:=ER) rfl rfl (ah (bS (fC (cz (aP rfl (au rfl) (aP rfl (au rfl) bz)) (call2 (yY R))) (aX rfl) rfl) ⟨rfl,rfl⟩))
def E3(R:jW t rs)(hl:(cg aW rs (bw t)).length<=2000)(hk:oh (cg aW rs (bw t))):run prog w (n+8) 14 [.val (.str t),.val (.lst (rs.map cF))]=some (.lst ((kP (cg aW rs (bw t))).map dX),[]):=
 bZ (fn:=ES) rfl rfl (ah (bS (cz (aP rfl (fC (cz (aP rfl (au rfl) (aP rfl (au rfl) bz)) (call2 (yY R))) (aX rfl) rfl) bz) (fU (E2 hl hk))) ⟨rfl,rfl⟩))
def Sf(R:jW t rs)(hl:(eY aW rs (bw t)).length<=2000)(hk:oh (eY aW rs (bw t))):run prog w (n+8) 15 [.val (.str t),.val (.lst (rs.map cF))]=some (.lst ((kP (eY aW rs (bw t))).map dX),[]):=
 bZ (fn:=ET) rfl rfl (ah (bS (cz (aP rfl (fC (cz (aP rfl (au rfl) (aP rfl (au rfl) bz)) (call2 (yY R))) (aX rfl) rfl) bz) (fU (E2 hl hk))) ⟨rfl,rfl⟩))
theorem sS(o:List Nat)(st:List Ow):∀(c:List Pt) (j:Nat),j+ay c<=st.length->(bN (aW o) c (st.drop j)).map Ow.v=(told j c).map (who (st.map Ow.v) o)
 |[],j,h=>rfl
 |.put s :: c,j,h=>by
  rw[gT]at h;have a:=sS o st c j h;simp only[bN,told,aao,a];simp[aW,Pt.told,Pt.asks,who,Function.comp_def,Ow.v]
 |.keep k :: c,j,h=>by
  rw[gS]at h;have a:=sS o st c (j+k) (by omega);simp only[bN,told,aao,abP,List.map_take,List.map_drop,a];rw[<-LY (st.map Ow.v) o k j (by simp;omega)];simp[Pt.told,Pt.asks]
 |.drop s :: c,j,h=>by
  rw[iC]at h;have a:=sS o st c (j+s.length) (by omega);simp only[bN,told,aao,abP,a];simp[Pt.told,Pt.asks]
theorem yZ:∀(rs:List Row) (st:List Ow) (t:List Nat),st.length=t.length->Ch t (bx rs)->(cg aW rs st).map Ow.v=ows (st.map Ow.v) rs
 |[],st,t,h,hc=>rfl
 |r :: rs,st,t,h,hc=>by
  obtain⟨a,b⟩:=(show aZ r.2 t=true/\Ch (aC r.2 t) (bx rs)from hc)
  have c:=yZ rs (bN (aW r.1) r.2 st) (aC r.2 t) (jx (λx=>by simp[aW]) r.2 st t h) b;have q:=sS r.1 st r.2 0 (by rw[h,gW a];omega);rw[abl]at q;show(cg aW rs (bN (aW r.1) r.2 st)).map Ow.v=ows (yz (st.map Ow.v) r) rs;rw[c,q];rfl
theorem E4(o:List Nat)(st:List V):∀(rs:List (List Pt)) (T:List Tq) (t:List Nat),T.length=t.length->Ch t rs->(nV T rs).map (who st o)=ows (T.map (who st o)) (rs.map λc=>(o,c))
 |[],T,t,h,_=>rfl
 |c :: rs,T,t,h,hc=>by
  obtain⟨a,f⟩:=(show aZ c t=true/\Ch (aC c t) rs from hc)
  have e:((told 0 c).map (sub T)).map (who st o)=yz (T.map (who st o)) (o,c):=by
   unfold yz;rw[ab0];refine List.map_congr_left λx g=>?_;cases x with
   |sg d=>rfl
   |«at» i=>
    have b:=LW g;rw[<-gW a,<-h]at b;simp[Function.comp,sub,who,List.getD,QJ b]
  have j:=E4 o st rs ((told 0 c).map (sub T)) (aC c t) (by rw[aaq,uX a]) f;show(nV ((told 0 c).map (sub T)) rs).map (who st o)=ows (yz (T.map (who st o)) (o,c)) _;rw[j,e]
def L6{o:List Nat}{W:List Pt}(hc:Ch t (bx rs))(A:An W t (bx rs)):ows ((bw t).map Ow.v) [(o,W)]=ows ((bw t).map Ow.v) (rs.map λr=>(o,r.2)):=by
 have h:=E4 o ((bw t).map Ow.v) (bx rs) (told 0 [.keep t.length]) t (by rw[nG];simp[ir,ek,tot,Pt.n]) hc;have e:(told 0 [.keep t.length]).map (who ((bw t).map Ow.v) o)=(bw t).map Ow.v:=by
  have:=EL (c:=[.keep t.length]) (st:=(bw t).map Ow.v) (o:=o) (by simp[cst,fN,tot]) (by simp[bw,ay,cL,tot,Pt.n]);exact this
 rw[e,<-A.Jk]at h;have a:(bx rs).map (λc=>(o,c))=rs.map λr=>(o,r.2):=by unfold bx;rw[ab0];rfl
 rw[a]at h;exact h
end
def W4(h:List Ow)(b k:Nat)(hk:k<=10000):fX (.lst (h.map Ow.v)) (some (b:Int)) (some ((b+k:Nat):Int))=some (.lst (((h.drop b).take k).map Ow.v)):=by
 have e:cut (h.map Ow.v) (some (b:Int)) (some ((b+k:Nat):Int))=((h.map Ow.v).drop b).take k:=jJ _ b k;show dD (cut (h.map Ow.v) _ _)=_;rw[e,<-List.map_drop,<-List.map_take];exact cB (bH (by simp;omega))
variable(hn:ns.length<=63)
include hn
theorem HL{t:List Nat}(ht:t.length<=6):∃rs,run prog w (n+8) 25 [.val (fZ ns),.val (.int 20),.val (.str t),.val (.int 5)]=some (.lst (rs.map cF),[])/\jW t rs/\rs.length<=5/\(∀r∈rs,r.1∈K3)/\(cy t (bx rs)).length<=87/\cQ (bx rs)<=700:=by
 have dr:=λ(k:Int) (m:Nat) (hm:0<m) fr=>fF (fr:=fr) (fS (F:=prog) (c:=19) (dr:=20) (w:=w) (n:=n+5) rfl rfl hn k (many:=(m:Int)) (by omega));obtain⟨N,J,X⟩:=drawn (ns:=ns) 20 6 (by decide);have G:=dr 20 6 (by decide);rw[J]at G;have g:Wp (exs (run prog w (n+7)) w yJ.body (eU yJ [.val (fZ ns),.val (.int 20),.val (.str t),.val (.int 5)])) λr fr=>∃rs,(jW t rs/\rs.length<=5/\(∀r∈rs,r.1∈K3)/\(cy t (bx rs)).length<=87/\cQ (bx rs)<=700)/\r=.ret (.lst (rs.map cF))/\outs 4 fr=[]:=by
  refine ah (gz (l:=[]) (jc aG j3) rfl rfl ?_);refine ah (gQ (vs:=range 0 N) (xW (aB (cz (aP rfl (au rfl) (aP rfl (au rfl) (aP rfl (bu (au rfl) (aX rfl) cC) bz))) (G _)) aG) (Qq (by omega) rfl)) ?_);refine AD (lo:=0) (N:=N) (λk fr=>∃rs x y z,rs.length=k/\Ch t (bx rs)/\(∀r∈rs,r.2.length<=900/\r.1∈K3)/\(cy t (bx rs)).length<=27+12*k/\cQ (bx rs)<=140*k/\vo x/\vo y/\vo z/\fr=[some (.val (fZ ns)),some (.val (.int 20)),some (.val (.str (cy t (bx rs)))),some (.val (.int 5)),some (.own (rs.map cF)),x,y,z]) (λk fr Y ⟨rs,x,y,z,H,j,f,K,L,p,q,A,b⟩=>?_) (λfr ⟨rs,x,y,z,H,j,f,K,L,p,q,A,b⟩=>?_) ⟨[],none,none,none,rfl,trivial,(λr a=>(List.not_mem_nil a).elim),(by show t.length<=_;omega),(by simp[cQ,bx]),.none,.none,.none,rfl⟩
  .subst b;have I:=dr (20+1+70*((0:Int)+(k:Nat))) 4 (by decide);obtain⟨d,M,P⟩:=drawn (ns:=ns) (20+1+70*((0:Int)+(k:Nat))) 4 (by decide);rw[M]at I;obtain⟨o,oK,B⟩:∃o:List Nat,o∈K3/\gj (.lst [.str [97,110,110],.str [98,111],.str [97,110,110],.str [99]]) (.int (d:Int))=some (.str o):=by
    match d,P with
    |0,_=>exact⟨_,by decide,rfl⟩
    |1,_=>exact⟨_,by decide,rfl⟩
    |2,_=>exact⟨_,by decide,rfl⟩
    |3,_=>exact⟨_,by decide,rfl⟩
   obtain⟨c,C,f1,f2,f3,f4⟩:=u9 (F:=prog) (c0:=19) (nW:=20) (nX:=22) (i:=24) (w:=w) (n:=n) hn rfl rfl rfl rfl (20+2+70*((0:Int)+(k:Nat))) (cy t (bx rs)) (by omega);have C:=λfr=>fF (fr:=fr) C;have Q:=λfr=>call2 (fr:=fr) (HD (F:=prog) (i:=23) (w:=w) (n:=n+6) rfl c (cy t (bx rs)) (by omega) (by omega) f1);refine cJ (bind1 rfl p) (ah (aR (fC (jc (aB (aX rfl) (aB (aX rfl) (aB (aX rfl) (aB (aX rfl) aG)))) (cB (bH (by simp)))) (cz (aP rfl (au rfl) (aP rfl (bu (bu (au rfl) (aX rfl) cC) (bu (aX rfl) (au rfl) (lG (Jp _))) cC) (aP rfl (aX rfl) bz))) (I _)) B) rfl (gD rfl q) ?_));refine ah (aR (cz (aP rfl (au rfl) (aP rfl (bu (bu (au rfl) (aX rfl) cC) (bu (aX rfl) (au rfl) (lG (Jp _))) cC) (aP rfl (au rfl) bz))) (C _)) rfl (gD rfl A) ?_);refine ah (aR (cz (aP rfl (au rfl) (aP rfl (au rfl) bz)) (Q _)) rfl rfl ?_);refine ah (fc (qb rfl rfl (aB (ef (aB (au rfl) (aB (au rfl) aG)) gO) aG) (qa (by simp;omega))) (az ?_));rw[dG];refine⟨rs++[(o,c)],_,_,_,by simp[H],LX.mpr ⟨j,f1⟩,λr a=>?_,?_,?_,.val,.val,.val,by rw[nI,aao];rfl⟩
   .rcases List.mem_append.mp a with a|a
    .exact f r a
    .rw[aaT]at a;subst a;exact⟨by simp only;omega,oK⟩
   .rw[nI];simp only;omega
   .rw[uY];simp only;omega
  .subst b;refine ah (bS (af:=[some (.val (fZ ns)),some (.val (.int 20)),some (.val (.str (cy t (bx rs)))),some (.val (.int 5)),some (.val (.lst (rs.map cF))),x,y,z]) ?_ ⟨rs,⟨⟨j,λr a=>(f r a).1,by omega⟩,by omega,λr a=>(f r a).2,by omega,by omega⟩,rfl,rfl⟩);have W:fT [some (.val (fZ ns)),some (.val (.int 20)),some (.val (.str (cy t (bx rs)))),some (.val (.int 5)),some (.own (rs.map cF)),x,y,z]=[some (.val (fZ ns)),some (.val (.int 20)),some (.val (.str (cy t (bx rs)))),some (.val (.int 5)),some (.val (.lst (rs.map cF))),x,y,z]:=by
    show [_,_,_,_,_,x.map Sl.eE,y.map Sl.eE,z.map Sl.eE]=_;rw[dh p,dh q,dh A];rfl
   rw[W];exact au rfl
 obtain⟨r,fr,e,rs,h,a,B⟩:=g;exact⟨rs,bZ (fn:=yJ) rfl rfl ⟨r,fr,e,a,B⟩,h⟩
omit hn in
theorem VZ{f:V->V->Option Bool}:∀{l:List V},(∀x∈l,f x x=some true)->cU f l l=some true
 |[],_=>Az
 |x :: l,h=>by rw[xQ,h x (.head _),VZ λy a=>h y (.tail _ a)];rfl
omit hn in
theorem Sg(m:Nat)(l:List Ow):dB (m+2) (.lst (l.map Ow.v)) (.lst (l.map Ow.v))=some true:=by
 rw[PL];refine VZ λx b=>?_;obtain⟨a,-,rfl⟩:=List.mem_map.mp b;rw[EO];simp
omit hn in
theorem sU{α:Type}{pu:List Nat->List α}{x:α}:∀(c:List Pt) (st:List α),x∈bN pu c st->x∈st\/∃s,x∈pu s
 |[],st,h=>by simp[bN]at h
 |.put s :: c,st,h=>by
  simp only[bN,List.mem_append]at h;rcases h with h|h
  .exact .inr ⟨s,h⟩
  .exact sU c st h
 |.keep k :: c,st,h=>by
  simp only[bN,List.mem_append]at h;rcases h with h|h
  .exact .inl (List.mem_of_mem_take h)
  .rcases sU c _ h with q|q
   .exact .inl (List.mem_of_mem_drop q)
   .exact .inr q
 |.drop s :: c,st,h=>by
  simp only[bN]at h;rcases sU c _ h with q|q
  .exact .inl (List.mem_of_mem_drop q)
  .exact .inr q
omit hn in
theorem sV{α:Type}{x:α}:∀(c:List Pt) (st:List α),x∈eL c st->x∈st
 |[],st,h=>by simp[eL]at h
 |.put s :: c,st,h=>sV c st h
 |.keep k :: c,st,h=>List.mem_of_mem_drop (sV c _ h)
 |.drop s :: c,st,h=>by
  simp only[eL,List.mem_append]at h;rcases h with h|h
  .exact List.mem_of_mem_take h
  .exact List.mem_of_mem_drop (sV c _ h)
omit hn in
theorem in_K:∀(rs:List Row) (st:List Ow),(∀r∈rs,r.1∈K3)->oh st->oh (cg aW rs st)/\oh (eY aW rs st)
 |[],st,_,h=>⟨h,λs q=>by simp[eY]at q⟩
 |r :: rs,st,hr,h=>by
  have a:oh (bN (aW r.1) r.2 st):=λs q=>by
   rcases sU r.2 st q with q|⟨u,q⟩
   .exact h s q
   .unfold aW at q;obtain⟨_,-,e⟩:=List.mem_map.mp q;cases e;exact hr r (by simp)
  obtain⟨b,c⟩:=in_K rs _ (λq d=>hr q (by simp[d])) a;refine⟨b,λs q=>?_⟩;simp only[eY,List.mem_append]at q;rcases q with q|q
  .exact h s (sV _ _ q)
  .exact c s q
omit hn in
theorem nO(l:List Ow):Pv.cop .ne (.lst (l.map Ow.v)) (.lst (l.map Ow.v))=some false:=by rw[o8];show(dB (18+2) _ _).map _=_;rw[Sg];rfl
omit hn in
theorem iP:∀ps:Ps,gc (ps.map dX)=some ps
 |[]=>rfl
 |p :: ps=>by simp only[aai,dX,gc,iP ps];rfl
section
variable{P:aS}{fr af aq:Fr}{k:Bool}{i j:Nat}{ps:Ps}{Q:Fl->Fr->Prop}{a e:Ev.E}{s:List Nat}{z:Int}
omit hn
def E5(h:kG Ev.cD fr[i]?=some [.tup (ps.map dX)])(ha:ev P true (.v j) fr=.ok (.str s) fr):ev P k (.fu Ev.cD .qI i 0 (.cons (.v j) .nil)) fr=.ok (.int (dv ps s)) fr:=
 G9 (by rw[h];rfl) (aB (by simpa[kf,cW]using ha) aG) h rfl (by show(gc (ps.map dX)).map _=_;rw[iP];rfl)
def Cq(h:kG Ev.cD fr[i]?=some [.tup (.aD :: ps.map dX)])(ha:ev P true (.v j) fr=.ok (.str s) fr)(hv:cV ps s=some z):ev P k (.fu Ev.cD .oJ i 0 (.cons (.v j) .nil)) fr=.ok (.int z) fr:=
 G9 (by rw[h];rfl) (aB (by simpa[kf,cW]using ha) aG) h rfl (by show((gc (ps.map dX)).bind _).map _=_;rw[iP];show(cV ps s).map _=_;rw[hv];rfl)
theorem Uw(h:kG Ev.cD fr[i]?=some [.tup (.aD :: ps.map dX)])(hl:ps.length<64):ev P k (.fu Ev.cD .tB i 0 .nil) fr=.ok (.lst ((Ev.br (ks ps)).map V.str)) fr:=
 G9 (by rw[h];rfl) aG h rfl (by
  show(gc (ps.map dX)).bind _=_;rw[iP,Option.bind_some,LV hl];exact cB (bH (by rw[aaq,lQ];simp[ks];omega)))
def JF(h:kG Ev.cD fr[i]?=some [.tup (.aD :: ps.map dX)]):dj P true (.qq Ev.cD i) fr=.ok ((ks ps).map V.str) fr:=by
 rw[dj,LV rfl,h];show R.of (((gc (ps.map dX))).map _) fr=_;rw[iP];unfold ks;rw[ab0];rfl
def JH(h0:(kG Ev.cD fr[i]?).isSome=true)(h:bL P false (.cons a (.cons e .nil)) fr=.ok [.str s,.int z] af)(h1:Am Ev.cD af[i]?=some (.oo Ev.cD [.tup (ps.map dX)],[.tup (ps.map dX)]))(hl:ps.length<100000)(h4:af.set i (some (.oo Ev.cD [.tup ((fJ ps s z).map dX)]))=aq)(q:Q .nx aq){w:Nat}:Wp (ex P w (.exp (.fm Ev.cD .dput i 0 (.cons a (.cons e .nil)))) fr) Q:=
 fc (Ql h0 h h1 rfl (by show(if (ps.map dX).length<100000 then _ else _)=_;rw[LV (by simpa using hl),iP];rfl) h4) q
def JJ(h1:Am Ev.cD fr[i]?=some (.oo Ev.cD [.tup (ps.map dX)],[.tup (ps.map dX)]))(h0:(kG Ev.cD fr[i]?).isSome=true)(h4:fr.set i (some (.oo Ev.cD [.tup (.aD :: ps.map dX)]))=aq)(q:Q .nx aq){w:Nat}:Wp (ex P w (.exp (.fm Ev.cD .qJ i 0 .nil)) fr) Q:=
 fc (Ql h0 aG h1 rfl (by show(gc (ps.map dX)).map _=_;rw[iP];rfl) h4) q
def JK{es:Ev.Es}{vs:List V}(h:bL P false es fr=.ok vs af)(h2:IJ vs=some ps)(h3:put af i (.oo Ev.cD [.tup (ps.map dX)])=some aq)(q:Q .nx aq){w:Nat}:Wp (ex P w (.nQ i es) fr) Q:=by
 rw[ex,h,ao,h2,cR,ao,h3];exact⟨_,_,rfl,q⟩
end
end
section
variable{w n:Nat}{ns:List Int}
noncomputable def nm(s:List Nat):List Nat:=if s=[97,110,110]then [120]else if s=[98,111]then [121]else [122]
noncomputable abbrev kvs:List (List Nat×List Nat):=[([97,110,110],[120]),([98,111],[121]),([99],[122])]
def JL{s:List Nat}(h:s∈K3):xu (.fj kvs) (.str s)=some (.str (nm s)):=by
 simp only[K3,acV,List.not_mem_nil,or_false]at h;rcases h with rfl|rfl|rfl<;>rfl
def E6{t:List Nat}{rs rs':List Row}(R:jW t rs)(h:bx rs'=bx rs):jW t rs':=⟨by rw[h];exact R.ch,λr a=>by
 have:r.2∈bx rs:=by rw[<-h];exact List.mem_map_of_mem a
 obtain⟨q,b,c⟩:=List.mem_map.mp this;rw[<-c];exact R.ln q b,by rw[h];exact R.tt⟩
theorem E7:∀(rs:List Row) (st:List Ow),cg aW (rs.map λr=>((nm r.1,r.2):Row)) st=cg (λo s=>(aW o s).map (Option.map nm)) rs st
 |[],st=>rfl
 |r :: rs,st=>by
  simp only[aai,cg];have:(λs=>(aW r.1 s).map (Option.map nm))=aW (nm r.1):=by funext s;simp[aW]
  rw[this];exact E7 rs _
def E8(hw:5000<w){t:List Nat}{rs:List Row}(R:jW t rs)(hl:rs.length<=5)(ht:t.length<=6)(h7:cQ (bx rs)<=700)(hk:∀r∈rs,r.1∈K3)(iO:oh (cg aW rs (bw t)))(ol:(cg aW rs (bw t)).length<=900):run prog w (n+9) 26 [.val (.str t),.val (.lst (rs.map cF)),.val (.lst ((cg aW rs (bw t)).map Ow.v))]=some (.bl true,[]):=by
 have o:bx (rs.map λr=>(nm r.1,r.2))=bx rs:=by unfold bx;rw[ab0];rfl
 have p:bx (rs.map λr=>(([97,110,110]:List Nat),r.2))=bx rs:=by unfold bx;rw[ab0];rfl
 have R1:=E6 R o;have R2:=E6 R p;have x:(rs.map λr=>cF (nm r.1,r.2))=(rs.map λr=>((nm r.1,r.2):Row)).map cF:=by rw[ab0];rfl
 have y:(rs.map λr=>cF ([97,110,110],r.2))=(rs.map λr=>(([97,110,110],r.2):Row)).map cF:=by rw[ab0];rfl
 have z:=λfr=>call2 (fr:=fr) (pK (w:=w) (n:=n) R1);have B:=λfr=>call2 (fr:=fr) (pK (w:=w) (n:=n) R2);have lt:cY .len [.str t]=some (.int (t.length:Nat)):=abC (by omega);obtain⟨W,e,A⟩:=yv (F:=prog) (aK:=0) (dO:=12) (b8:=11) (dU:=10) (bX:=4) (cP:=3) (dw:=1) (eB:=2) (iy:=8) (dR:=7) (i:=9) (w:=w) (n:=n+4) rfl rfl rfl rfl rfl rfl rfl rfl rfl rfl hw rfl t (bx rs) R.ch (by omega) (λc C=>by
  obtain⟨q,G,H⟩:=List.mem_map.mp C;rw[<-H];have:=R.ln q G;omega)
 have e:=λfr=>call2 (fr:=fr) e;have L:=A.tt;have M:=A.ln;have R3:jW t [([97,110,110],W)]:=⟨⟨A.fit,trivial⟩,λr d=>by rw[aaT]at d;subst d;simp only;omega,by simp[cQ,bx];omega⟩
 have I:=λfr=>call2 (fr:=fr) (pK (w:=w) (n:=n) R3);have f:(cg aW (rs.map λr=>(([97,110,110],r.2):Row)) (bw t)).map Ow.v=(cg aW [(([97,110,110],W):Row)] (bw t)).map Ow.v:=by
  rw[yZ _ _ t (by simp[bw]) R2.ch,yZ _ _ t (by simp[bw]) R3.ch,L6 R.ch A]
 have YX:cg aW (rs.map λr=>((nm r.1,r.2):Row)) (bw t)=(cg aW rs (bw t)).map (Option.map nm):=by
  rw[A3];have J:(bw t).map (Option.map nm)=bw t:=by unfold bw;rw[ab0];rfl
  rw[J];exact E7 rs _
 have g:dD (rs.map λr=>cF (nm r.1,r.2))=some (.lst ((rs.map λr=>((nm r.1,r.2):Row)).map cF)):=by rw[<-x];exact cB (bH (by simp;omega))
 have j:dD (rs.map λr=>cF ([97,110,110],r.2))=some (.lst ((rs.map λr=>(([97,110,110],r.2):Row)).map cF)):=by rw[<-y];exact cB (bH (by simp;omega))
 have l:dD ((cg aW rs (bw t)).map λa=>Ow.v (a.map nm))=some (.lst ((cg aW (rs.map λr=>((nm r.1,r.2):Row)) (bw t)).map Ow.v)):=by
  rw[YX,ab0];exact cB (bH (by simp;omega))
 have YY:dD (rs.map λr=>aY r.2)=some (.lst ((bx rs).map aY)):=by
  have:(bx rs).map aY=rs.map λr=>aY r.2:=by unfold bx;rw[ab0];rfl
  rw[this];exact cB (bH (by simp;omega))
 refine bZ (fn:=EU) rfl rfl ?_;refine ah (aR (Ub (by simp)) rfl rfl ?_);refine ah (aR (eW (cO (cT rfl) rfl) rfl (fy cF (λr=>cF (nm r.1,r.2)) rs λr d=>ig rfl (ef (aB (IX (au rfl) (au rfl) (JL (hk r d))) (aB (au rfl) aG)) gO)) g) rfl rfl ?_);refine ah (aI (b:=false) (aE rfl (bG (cz (aP rfl (au rfl) (aP rfl (au rfl) bz)) (z _)) (eW (cO (cT rfl) rfl) rfl (fy Ow.v (λa=>Ow.v (a.map nm)) (cg aW rs (bw t)) λa K=>?_) l) (nO _)) rfl) (zD ·) λ_=>az ?_)
 .cases a with
  |none=>exact ig rfl (iB (b:=true) (aE rfl (bG (au rfl) (aX rfl) rfl) rfl) (λ_=>aX rfl) λh=>absurd h (by decide))
  |some s=>exact ig rfl (iB (b:=false) (aE rfl (bG (au rfl) (aX rfl) rfl) rfl) (zD ·) λ_=>IX (au rfl) (au rfl) (JL (iO s K)))
 refine ah (aR (eW (cO (cT rfl) rfl) rfl (fy cF (λr=>cF ([97,110,110],r.2)) rs λr d=>ig rfl (ef (aB (aX rfl) (aB (au rfl) aG)) gO)) j) rfl rfl ?_);refine ah (bS (bG (cz (aP rfl (au rfl) (aP rfl (au rfl) bz)) (B _)) (cz (aP rfl (au rfl) (aP rfl (jc (aB (ef (aB (aX rfl) (aB (cz (aP rfl (fk (aB (au rfl) aG) lt) (aP rfl (eW (cO (cT rfl) rfl) rfl (fy cF (λr=>aY r.2) rs λr d=>ig rfl (au rfl)) YY) bz)) (e _)) aG)) gO) aG) BW) bz)) (I _)) ?_) ⟨rfl,rfl⟩);rw[f,PD];exact Sg 18 _
def GL(w n:Nat)(ss:Ev.Ss)(fr:Fr):Prop:=Wp (exs (run prog w (n+9)) w ss fr) λg fr=>g=.ret (.bl true)/\outs 1 fr=[]
noncomputable def EW:Ev.Ss:=.cons yQ (.cons yR (.cons yS (.cons yT (.cons yU (.cons yV (.cons yW .nil))))))
noncomputable def s9:Ev.Ss:=.cons Cm (.cons yK (.cons yL (.cons yN (.cons yO (.cons yP EW)))))
noncomputable def lF(ns:List Int)(t:List Nat)(rs:List Row)(u:List Nat)(x4 x5:Option Sl)(O:List Ow)(x7 x8 x9 YZ za Y0 Y3 Y4 Y5:Option Sl):Fr:=[some (.val (fZ ns)),some (.val (.str t)),some (.val (.lst (rs.map cF))),some (.val (.str u)),x4,x5,some (.val (.lst (O.map Ow.v))),x7,x8,x9,YZ,za,Y0,Y3,Y4,Y5,none,none,none,none,none,none,none]
noncomputable abbrev gY:List Nat:=[122,101,100]
noncomputable abbrev kp(c:List Pt)(O:List Ow):List Ow:=bN (λ_=>[]) c O
def Ux(a:Ow):Pv.cop .ne a.v (.str gY)=some (!decide (a=some gY)):=by
 rw[o8];show(dB (19+1) a.v (Ow.v (some gY))).map _=_;rw[EO];rfl
theorem vI:∀(c:List Pt) (st:List Ow),(∀a∈st,a≠some gY)->(bN (aW gY) c st).filter (λa=>!decide (a=some gY))=kp c st
 |[],st,_=>rfl
 |.put s :: c,st,h=>by
  simp only[bN,acd,kp,acD];rw[vI c st h];have:(aW gY s).filter (λa=>!decide (a=some gY))=[]:=by
   rw[List.filter_eq_nil_iff];intro a b;unfold aW at b;obtain⟨_,-,rfl⟩:=List.mem_map.mp b;simp
  rw[this];rfl
 |.keep k :: c,st,h=>by
  simp only[bN,acd,kp];rw[vI c _ λa b=>h a (List.mem_of_mem_drop b)]
  congr 1
  exact List.filter_eq_self.mpr λa b=>by simp[h a (List.mem_of_mem_take b)]
 |.drop s :: c,st,h=>by
  simp only[bN,kp];exact vI c _ λa b=>h a (List.mem_of_mem_drop b)
section
variable{t u:List Nat}{rs:List Row}{O:List Ow}{x4 x5 x7 x8 x9 za:Option Sl}
def L7{c p l:List Pt}{q:Pt}{jL x y:Option Sl}{Q:Fl->Fr->Prop}(hpl:p++q :: l=c)(hc:tot c<=900)(h12:lv jL ((kp p O).map Ow.v))(hx:vo x)(hy:vo y)
  (k:∀jL x y,lv jL ((kp (p++[q]) O).map Ow.v)->vo x->vo y->Q .nx (lF ns t rs u x4 x5 O x7 x8 x9 (some (.val (aY c))) za jL (some (.val (.int (ay (p++[q]):Nat)))) x y)) :
  Wp (turnF (run prog w (n+9)) w (.many [14,15]) Co q.v (lF ns t rs u x4 x5 O x7 x8 x9 (some (.val (aY c))) za jL (some (.val (.int (ay p:Nat)))) x y)) Q:=by
 have f:tot p+(q.n+tot l)=tot c:=by rw[<-hpl,ee,bB]
 have g:=mQ (pu:=λ_=>([]:List Ow)) [q] p O;have A:(kp p O).length<=tot p:=by
  have:∀(c:List Pt) (d:List Ow),(kp c d).length<=tot c:=λc=>by
   induction c with
   |nil=>intro d;simp[kp,bN]
   |cons a c i=>
    intro d;cases a with
    |put s=>have:=i d;simp only[kp,bN,bB,Pt.n]at this ⊢;simp;omega
    |keep k=>have:=i (d.drop k);simp only[kp,bN,bB,Pt.n,aam,abA]at this ⊢;omega
    |drop s=>have:=i (d.drop s.length);simp only[kp,bN,bB,Pt.n]at this ⊢;omega
  exact this p O
 have j:=gU p [q];cases q with
 |put s=>
  have e:ay (p++[.put s])=ay p:=by rw[j];simp[ay,tot,cL]
  refine cJ (af:=lF ns t rs u x4 x5 O x7 x8 x9 (some (.val (aY c))) za jL (some (.val (.int (ay p:Nat)))) (some (.val (.str [112,117,116]))) (some (.val (.str s)))) (fG rfl hx rfl hy) ?_;refine ah (aI (b:=false) (aE rfl (bG (au rfl) (aX rfl) gA) rfl) (zD ·) λ_=>az ?_);refine ah (aI (b:=false) (aE rfl (bG (au rfl) (aX rfl) gn) rfl) (zD ·) λ_=>az (az ?_));have:=k jL _ _ (by unfold kp at h12 ⊢;rw[g];simpa[bN]using h12) (.val (v:=.str [112,117,116])) (.val (v:=.str s));rw[e]at this;exact this
 |keep m=>
  have e:ay (p++[.keep m])=ay p+m:=by rw[j];simp[ay,tot,cL,Pt.n]
  have o:=xN (x:=(kp p O).map Ow.v) (y:=((O.drop (ay p)).take m).map Ow.v) (by simp[Pt.n]at f ⊢;omega);have r:=W4 O (ay p) m (by simp[Pt.n]at f;omega);refine cJ (af:=lF ns t rs u x4 x5 O x7 x8 x9 (some (.val (aY c))) za jL (some (.val (.int (ay p:Nat)))) (some (.val (.str [107,101,101,112]))) (some (.val (.int (m:Int))))) (fG rfl hx rfl hy) ?_;refine ah (aI (b:=true) (aE rfl (bG (au rfl) (aX rfl) gA) rfl) (λ_=>?_) λh=>absurd h (by decide));refine ah (aR (bu (Qv rfl rfl h12) (xU (au rfl) (jd (au rfl)) (jd (bu (au rfl) (au rfl) (EM (ay p) m))) r) o) rfl (Qw rfl h12) (az ?_));refine ah (aI (b:=true) (aE rfl (bG (au rfl) (aX rfl) gn) rfl) (λ_=>?_) λh=>absurd h (by decide));refine ah (aR (bu (au rfl) (iB (b:=true) (aE rfl (bG (au rfl) (aX rfl) gA) rfl) (λ_=>au rfl) λh=>absurd h (by decide)) (EM (ay p) m)) rfl rfl (az (az ?_)));have:=k (some (.val (.lst ((kp p O).map Ow.v++((O.drop (ay p)).take m).map Ow.v)))) _ _ (by unfold kp;rw[g,aao];simp only[bN,aaD];exact .val) (.val (v:=.str [107,101,101,112])) (.val (v:=.int (m:Int)));rw[e]at this;exact this
 |drop s=>
  have e:ay (p++[.drop s])=ay p+s.length:=by rw[j];simp[ay,tot,cL,Pt.n]
  have z:cY .len [.str s]=some (.int (s.length:Nat)):=abC (by simp[Pt.n]at f;omega);refine cJ (af:=lF ns t rs u x4 x5 O x7 x8 x9 (some (.val (aY c))) za jL (some (.val (.int (ay p:Nat)))) (some (.val (.str [100,114,111,112]))) (some (.val (.str s)))) (fG rfl hx rfl hy) ?_;refine ah (aI (b:=false) (aE rfl (bG (au rfl) (aX rfl) gA) rfl) (zD ·) λ_=>az ?_);refine ah (aI (b:=true) (aE rfl (bG (au rfl) (aX rfl) gn) rfl) (λ_=>?_) λh=>absurd h (by decide));refine ah (aR (bu (au rfl) (iB (b:=false) (aE rfl (bG (au rfl) (aX rfl) gA) rfl) (zD ·) λ_=>fk (aB (au rfl) aG) z) (EM (ay p) s.length)) rfl rfl (az (az ?_)));have:=k jL _ _ (by unfold kp at h12 ⊢;rw[g];simpa[bN]using h12) (.val (v:=.str [100,114,111,112])) (.val (v:=.str s));rw[e]at this;exact this
end
section
variable(hn:ns.length<=63)
include hn
theorem Uy(hw:5000<w){t:List Nat}{rs:List Row}(R:jW t rs)(hl:rs.length<=5)(ht:t.length<=6)(h8:(cy t (bx rs)).length<=87)(h7:cQ (bx rs)<=700)(hk:∀r∈rs,r.1∈K3)(iO:oh (cg aW rs (bw t))){x4 x5 x9:Option Sl}{s7 s8:List V}:GL w n EW (lF ns t rs (cy t (bx rs)) x4 x5 (cg aW rs (bw t)) (some (.oo Ev.cD s7)) (some (.oo Ev.cD s8)) x9 none none none none none none):=by
 obtain⟨c,B,f1,f2,f3,f4⟩:=u9 (F:=prog) (c0:=19) (nW:=20) (nX:=22) (i:=24) (w:=w) (n:=n+2) hn rfl rfl rfl rfl 500 (cy t (bx rs)) (by omega);have B:=λfr=>fF (fr:=fr) B;have RZ:jW t (rs++[(gY,c)]):=by
  refine⟨?_,λr I=>?_,?_⟩
  .rw[qi,sO];exact⟨R.ch,f1,trivial⟩
  .rcases List.mem_append.mp I with h|h
   .exact R.ln r h
   .rw[aaT]at h;subst h;simp only;omega
  .rw[uY];simp only;omega
 have C:=λfr=>call2 (fr:=fr) (pK (w:=w) (n:=n+1) RZ);rw[q9]at C;have J:=mS (pu:=aW) (λo s=>by simp[aW]) rs (bw t) t (by simp[bw]);have V0:=λfr=>fF (fr:=fr) (E8 (w:=w) (n:=n) hw R hl ht h7 hk iO (by omega));have G:∀a∈cg aW rs (bw t),a≠some gY:=λa K e=>by
  subst e;exact absurd (iO gY K) (by decide)
 generalize cg aW rs (bw t)=O at C J V0 G
 have L:Pv.bW .add (.lst (rs.map cF)) (.lst [.tup [.str gY,aY c]])=some (.lst ((rs++[(gY,c)]).map cF)):=by
  rw[xN (by simp;omega),aao];rfl
 have H:=vI c O G;have N:(bN (aW gY) c O).length<=900:=by
  have:=pF (pu:=aW gY) (λs=>by simp[aW]) c O;omega
 have M:dD (((bN (aW gY) c O).filter λa=>!decide (a=some gY)).map Ow.v)=some (.lst ((kp c O).map Ow.v)):=by
  rw[H];refine cB (bH ?_);rw[<-H,aaq];have:=List.length_filter_le (λa=>!decide (a=some gY)) (bN (aW gY) c O);omega
 unfold GL EW;refine ah (aR (cz (aP rfl (au rfl) (aP rfl (aX rfl) (aP rfl (au rfl) bz))) (B _)) rfl rfl ?_);refine ah (aR (cz (aP rfl (au rfl) (aP rfl (bu (au rfl) (jc (aB (ef (aB (aX rfl) (aB (au rfl) aG)) gO) aG) BW) L) bz)) (C _)) rfl rfl ?_);refine ah (gz (l:=[]) (jc aG j3) rfl rfl ?_);refine ah (aR (aX rfl) rfl rfl ?_);refine ah (gQ (vs:=c.map Pt.v) (cO (cT rfl) rfl) ?_);refine ez (e:=Pt.v) (λp l fr=>p++l=c/\∃j x y,lv j ((kp p O).map Ow.v)/\vo x/\vo y/\fr=lF ns t rs (cy t (bx rs)) x4 x5 O (some (.oo Ev.cD s7)) (some (.oo Ev.cD s8)) x9 (some (.val (aY c))) (some (.val (.lst ((bN (aW gY) c O).map Ow.v)))) j (some (.val (.int (ay p:Nat)))) x y) (λp q l fr ⟨d,j,x,y,f,z,A,g⟩=>?_) (λp fr ⟨d,j,x,y,f,z,A,g⟩=>?_) c [] _ ⟨rfl,some (.own []),none,none,.own,.none,.none,rfl⟩
 .subst g;refine L7 d (by omega) f z A λj x y f z A=>?_;rw[dG];exact⟨by simpa using d,j,x,y,f,z,A,rfl⟩
 .subst g;rw[aaD]at d;subst d;refine ah (aI (b:=false) (aE rfl (bG (eW (cO (cT rfl) rfl) rfl (fM Ow.v (λa=>!decide (a=some gY)) Ow.v (bN (aW gY) p O) λa _=>gR rfl (aE rfl (bG (au rfl) (aX rfl) (Ux a)) rfl) λ_=>au rfl) M) (Qv rfl rfl f) (nO _)) rfl) (zD ·) λ_=>az ?_);exact ah (bS (cz (aP rfl (au rfl) (aP rfl (au rfl) (aP rfl (au rfl) bz))) (V0 _)) ⟨rfl,rfl⟩)
end
def pL{ps:Ps}(h:ks ps∈iz):ps.length<=3:=by
 have:=(pG _ h).2;unfold ks at this;simpa using this
def E9(l:List Ow):(kP l).length<=3:=pL (by rw[nK];exact sR _)
def Sh{a b:List Ow}{p l:Ps}(h:p++l=kP b):ks (p.foldl inc (kP a))∈iz:=by
 rw[mU,nK];refine pH _ _ (sR _) λk c=>?_;have:k∈ks (kP b):=by rw[<-h];unfold ks at c ⊢;rw[aao];exact aaW _ c
 rw[nK]at this;exact(List.mem_filter.mp this).1
def L8{rs p l:List Row}(hk:∀r∈rs,r.1∈K3)(h:p++l=rs):ks (pD p)∈iz:=HJ λr a=>hk r (by rw[<-h];exact aaW _ a)
noncomputable abbrev oD(ps:Ps):Option Sl:=some (.oo Ev.cD [.tup (ps.map dX)])
noncomputable abbrev oZ(ps:Ps):Option Sl:=some (.oo Ev.cD [.tup (.aD :: ps.map dX)])
def Fb{t u:List Nat}{rs:List Row}{O:List Ow}{x4 x5 x7 x9:Option Sl}{ps:Ps}{q:List Nat×Int}{Q:Fl->Fr->Prop}(hl:ps.length<=3)(h4:vo x4)(h9:vo x9)
  (k:∀x4 x9,vo x4->vo x9->Q .nx (lF ns t rs u x4 x5 O x7 (oD (inc ps q)) x9 none none none none none none)) :
  Wp (turnF (run prog w (n+9)) w (.many [4,9]) Cn (dX q) (lF ns t rs u x4 x5 O x7 (oD ps) x9 none none none none none none)) Q:=by
 refine cJ (af:=lF ns t rs u (some (.val (.str q.1))) x5 O x7 (oD ps) (some (.val (.int q.2))) none none none none none none) (fG rfl h4 rfl h9) ?_;exact ah (JH (ps:=ps) rfl (aB (au rfl) (aB (bu (E5 rfl (au rfl)) (au rfl) cC) aG)) rfl (by omega) rfl (az (k _ _ (.val (v:=.str q.1)) (.val (v:=.int q.2)))))
theorem vJ:∀c:List Pt,(((c.filter cL).map λq=>((q.n:Nat):Int)).sum)=((jg c:Nat):Int)
 |[]=>rfl
 |.keep k :: c=>vJ c
 |.drop s :: c=>vJ c
 |.put s :: c=>by
  show(((Pt.put s :: c.filter cL).map λq=>((q.n:Nat):Int)).sum)=((s.length+jg c:Nat):Int)
  rw[aai,List.sum_cons,vJ c];show((s.length:Nat):Int)+_=_;omega
def Ma{fr:Fr}{P:aS}{c:List Pt}{k:Bool}(hi:dj P true (.seq (.v 5)) fr=.ok (c.map Pt.v) fr)(hu:undef (.many [18,19]) fr=true)(hc:tot c<=900)(hl:c.length<=900)(ht:∀q∈c,jz P (.bi .len (.cons (.v 19) .nil)) (.many [18,19]) (.yes (.cmp .eq (.v 18) (.c (.str [112,117,116])))) fr q.v=some (if cL q then some (.int (q.n:Nat))else none)):ev P k (.bi .sum (.cons (.comp (.bi .len (.cons (.v 19) .nil)) (.many [18,19]) (.seq (.v 5)) (.yes (.cmp .eq (.v 18) (.c (.str [112,117,116]))))) .nil)) fr=.ok (.int (jg c:Nat)) fr:=by
 have e:=vJ;have a:dD ((c.filter cL).map λq=>V.int ((q.n:Nat):Int))=some (.lst ((c.filter cL).map λq=>V.int ((q.n:Nat):Int))):=cB (bH (by
  rw[aaq];have:=List.length_filter_le cL c;omega))
 exact fk (aB (eW hi hu (fM Pt.v cL (λq=>.int ((q.n:Nat):Int)) c ht) a) aG) (by rw[tU,ny (λq:Pt=>((q.n:Nat):Int))];show some (V.int _)=_;rw[e])
def HM{t u:List Nat}{rs:List Row}{O:List Ow}{x4 x5:Option Sl}{ps:Ps}{r:Row}{Q:Fl->Fr->Prop}(hl:ps.length<=3)(hc:tot r.2<=900)(hr:r.2.length<=900)(h4:vo x4)(h5:vo x5)
  (k:∀x4 x5,vo x4->vo x5->Q .nx (lF ns t rs u x4 x5 O (oD (inc ps (r.1,((jg r.2:Nat):Int)))) none none none none none none none none)) :
  Wp (turnF (run prog w (n+9)) w (.many [4,5]) Ck (cF r) (lF ns t rs u x4 x5 O (oD ps) none none none none none none none none)) Q:=by
 refine cJ (af:=lF ns t rs u (some (.val (.str r.1))) (some (.val (aY r.2))) O (oD ps) none none none none none none none none) (fG rfl h4 rfl h5) ?_;refine ah (JH (ps:=ps) rfl (aB (au rfl) (aB (bu (E5 rfl (au rfl)) (Ma (cO (cT rfl) rfl) rfl hc hr λq c=>?_) cC) aG)) rfl (by omega) rfl (az (k _ _ (.val (v:=.str r.1)) (.val (v:=aY r.2)))));cases q with
 |put s=>
  have:s.length<=900:=by
   obtain⟨a,b,e⟩:=List.append_of_mem c;rw[e,ee,bB]at hc;simp[Pt.n]at hc;omega
  exact gR (b:=true) rfl (aE rfl (bG (au rfl) (aX rfl) gA) rfl) λ_=>fk (aB (au rfl) aG) (abC (by omega))
 |keep m=>exact gR (b:=false) (v:=.aD) (cI:=[]) rfl (aE rfl (bG (au rfl) (aX rfl) gA) rfl) λh=>absurd h (by decide)
 |drop s=>exact gR (b:=false) (v:=.aD) (cI:=[]) rfl (aE rfl (bG (au rfl) (aX rfl) gA) rfl) λh=>absurd h (by decide)
section
variable(hn:ns.length<=63)
include hn
theorem W5(hw:5000<w){t:List Nat}{rs:List Row}(R:jW t rs)(hl:rs.length<=5)(ht:t.length<=6)(h8:(cy t (bx rs)).length<=87)(h7:cQ (bx rs)<=700)(hk:∀r∈rs,r.1∈K3)(iO:oh (cg aW rs (bw t)))(iG:oh (eY aW rs (bw t))){x4 x5:Option Sl}(v4:vo x4):GL w n s9 (lF ns t rs (cy t (bx rs)) x4 x5 (cg aW rs (bw t)) (oD (pD rs)) none none none none none none none none):=by
 have I:=mS (pu:=aW) (λo s=>by simp[aW]) rs (bw t) t (by simp[bw]);have gl:=yE (pu:=aW) rs (bw t);have x:=λfr=>call2 (fr:=fr) (E3 (w:=w) (n:=n+1) R (by omega) iO);have y:=λfr=>call2 (fr:=fr) (Sf (w:=w) (n:=n+1) R (by omega) iG);obtain⟨z,d⟩:=two R.ch hk;have fin:=λx4 x9 s7 s8=>Uy (w:=w) (n:=n) hn hw R hl ht h8 h7 hk iO (x4:=x4) (x5:=x5) (x9:=x9) (s7:=s7) (s8:=s8);have A:=HK (cg aW rs (bw t)) (eY aW rs (bw t));generalize cg aW rs (bw t)=O at *
 generalize eY aW rs (bw t)=Gn at *
 have j:=HJ hk;have B:IJ [.lst ((kP O).map dX)]=some (kP O):=by
  show(gc ((kP O).map dX)).bind _=_;rw[iP,Option.bind_some,LV (by have:=E9 O;omega),R9]
 unfold GL s9;refine ah (JK (aB (cz (aP rfl (au rfl) (aP rfl (au rfl) bz)) (x _)) aG) B rfl ?_);refine ah (gQ (vs:=(kP Gn).map dX) (cO (cz (aP rfl (au rfl) (aP rfl (au rfl) bz)) (y _)) rfl) ?_);refine ez (e:=dX) (λp l fr=>p++l=kP Gn/\∃x4 x9,vo x4/\vo x9/\fr=lF ns t rs (cy t (bx rs)) x4 x5 O (oD (pD rs)) (oD (p.foldl inc (kP O))) x9 none none none none none none) (λp q l fr ⟨a,x4,x9,g,i,c⟩=>?_) (λp fr ⟨a,x4,x9,g,i,c⟩=>?_) (kP Gn) [] _ ⟨rfl,x4,none,v4,.none,rfl⟩
 .subst c;refine Fb (pL (Sh a)) g i λx4 x9 g i=>?_;rw[dG];exact⟨by simpa using a,x4,x9,g,i,by rw[abT];rfl⟩
 .subst c;rw[aaD]at a;subst a;have J:=pL A;have K:=pL j;have fl:=pG _ (JB j λs=>decide (0<dv (pD rs) s));have C:dD (((ks (pD rs)).filter λs=>decide (0<dv (pD rs) s)).map V.str)=some (.lst (((ks (pD rs)).filter λs=>decide (0<dv (pD rs) s)).map V.str)):=cB (bH (by rw[aaq];omega));have F:cY .sorted [.lst (((ks (pD rs)).filter λs=>decide (0<dv (pD rs) s)).map V.str)]=some (.lst ((Ev.br (ks (bD O Gn))).map V.str)):=by
   show((jH _).bind strsOf).bind _=_;rw[pZ,Option.bind_some,strs_map,Option.bind_some,LV (by omega),z];exact cB (bH (by rw[aaq,lQ];omega))
  have G:Pv.cop .ne (.lst ((Ev.br (ks (bD O Gn))).map V.str)) (.lst ((Ev.br (ks (bD O Gn))).map V.str))=some false:=by
   rw[o8,Ln];rw[Jq λv H=>by obtain⟨s,-,rfl⟩:=List.mem_map.mp H;exact .inr ⟨s,rfl⟩];rfl
  refine ah (JJ (ps:=pD rs) rfl rfl rfl ?_);refine ah (JJ (ps:=bD O Gn) rfl rfl rfl ?_);refine ah (aI (b:=false) (aE rfl (bG (Uw rfl (by omega)) (fk (aB (eW (JF rfl) rfl (fM V.str (λs=>decide (0<dv (pD rs) s)) V.str (ks (pD rs)) λs f=>gR rfl (aE rfl (bG (Cq rfl (au rfl) (yX f)) (aX rfl) xX) rfl) λ_=>au rfl) C) aG) F) G) rfl) (zD ·) λ_=>az ?_);refine ah (aI (b:=false) (aE rfl (bG (eW (JF (ps:=bD O Gn) rfl) rfl ((fM V.str (λ_=>false) V.str (ks (bD O Gn)) λs f=>gR (b:=false) (v:=.aD) (cI:=[]) rfl (aE rfl (bG (Cq rfl (au rfl) (yX f)) (Cq rfl (au rfl) (yX (d s f).1)) sE) (by show(!decide _)=false;rw[(d s f).2];simp)) λh=>absurd h (by decide)).trans (by simp)) j3) (jc aG j3) (nO [])) rfl) (zD ·) λ_=>az ?_);exact fin _ _ _ _
theorem Si(hw:5000<w):run prog w (n+10) 27 [.val (fZ ns)]=some (.bl true,[]):=by
 have x:(txt ns 0 6).length<=6:=LJ ns 0 (most:=6) (by decide);have B:=λfr=>fF (fr:=fr) (Hg (F:=prog) (c:=19) (dr:=20) (t:=21) (w:=w) (n:=n+6) rfl rfl hn rfl 0 6 (by decide) (by decide));generalize txt ns 0 6=t at x B
 obtain⟨g,y,R,K,z,L,M⟩:=HL (w:=w) (n:=n+1) hn x;have y:=λfr=>T6 (fr:=fr) y;obtain⟨A,N⟩:=in_K g (bw t) z (λs h=>by simp[bw]at h);have C:=mS (pu:=aW) (λo s=>by simp[aW]) g (bw t) t (by simp[bw]);have P:=λfr=>call2 (fr:=fr) (pK (w:=w) (n:=n+1) R);have Q:=λfr=>call2 (fr:=fr) (E3 (w:=w) (n:=n+1) R (by omega) A);have fin:=λx4 x5 (v4:vo x4)=>W5 (w:=w) (n:=n) hn hw R K x L M z A N (x4:=x4) (x5:=x5) v4;have W:=rq (cg aW g (bw t));have X:=A7 (cg aW g (bw t));have Y:=Sd (A9 A);generalize cg aW g (bw t)=O at *
 have Z:cY .len [.lst (O.map Ow.v)]=some (.int (O.length:Nat)):=by rw[Lp];simp
 have G:cY .len [.str (cy t (bx g))]=some (.int ((cy t (bx g)).length:Nat)):=abC (by omega);have mk:dD ((kP O).map λp=>V.int p.2)=some (.lst ((kP O).map λp=>V.int p.2)):=cB (bH (by rw[aaq];have:=E9 O;omega));have sm:cY .sum [.lst ((kP O).map λp=>V.int p.2)]=some (.int ((aV O).length:Nat)):=by
  rw[tU,ny (λp:List Nat×Int=>p.2)];show some (V.int _)=_;rw[Y]
 have ct:eF .count (.lst (O.map Ow.v)) [.aD]=some (.int ((O.filter Option.isNone).length:Nat)):=by
  show((jH (.lst (O.map Ow.v))).bind (cnt .aD)).map _=_;rw[pZ,Option.bind_some,X];rfl
 refine bZ (fn:=EV) rfl rfl ?_;refine ah (aR (cz (aP rfl (au rfl) (aP rfl (aX rfl) (aP rfl (aX rfl) bz))) (B _)) rfl rfl ?_);refine ah (aR (cz (aP rfl (au rfl) (aP rfl (aX rfl) (aP rfl (au rfl) (aP rfl (aX rfl) bz)))) (y _)) rfl rfl ?_);refine ah (aR (au rfl) rfl rfl ?_);refine ah (gQ (vs:=g.map cF) (cO (cT rfl) rfl) ?_);refine ez (e:=cF) (λp l fr=>p++l=g/\∃x4 x5,vo x4/\vo x5/\fr=[some (.val (fZ ns)),some (.val (.str t)),some (.val (.lst (g.map cF))),some (.val (.str (cy t (bx p)))),x4,x5]++List.replicate 17 none) (λp r l fr ⟨d,x4,x5,j,q,f⟩=>?_) (λp fr ⟨d,x4,x5,j,q,f⟩=>?_) g [] _ ⟨rfl,none,none,.none,.none,rfl⟩
 .subst f;obtain⟨H,I,J,q4,q5⟩:=R.at d;have D:=λfr=>call2 (fr:=fr) (yl (F:=prog) (aK:=0) (iw:=5) (i:=6) (w:=w) (n:=n+6) rfl rfl rfl r.2 (cy t (bx p)) (by omega) (by omega) (by omega) H);refine cJ (fG rfl j rfl q) ?_;refine ah (aR (cz (aP rfl (au rfl) (aP rfl (au rfl) bz)) (D _)) rfl rfl (az ?_));rw[dG];exact⟨by simpa using d,_,_,.val (v:=.str r.1),.val (v:=aY r.2),by rw[nI];rfl⟩
 .subst f;rw[aaD]at d;subst d;refine ah (aR (aq:=lF ns t p (cy t (bx p)) x4 x5 O none none none none none none none none none) (cz (aP rfl (au rfl) (aP rfl (au rfl) bz)) (P _)) rfl rfl ?_);refine ah (aI (b:=false) (aE rfl (bG (fk (aB (au rfl) aG) Z) (fk (aB (au rfl) aG) G) sE) (by rw[C];simp[truthy])) (zD ·) λ_=>az ?_);refine ah (aI (b:=false) (aE rfl (bG (bu (fk (aB (eW (cO (cz (aP rfl (au rfl) (aP rfl (au rfl) bz)) (Q _)) rfl) rfl (fy dX (λp=>V.int p.2) (kP O) λp _=>ig rfl (au rfl)) mk) aG) sm) (vF rfl (au rfl) (aB (aX rfl) aG) ct) (EM _ _)) (fk (aB (au rfl) aG) G) sE) (by rw[W,C];simp[truthy])) (zD ·) λ_=>az ?_);refine ah (JK (ps:=[]) aG rfl rfl ?_);refine ah (gQ (vs:=p.map cF) (cO (cT rfl) rfl) ?_);refine ez (e:=cF) (λa l fr=>a++l=p/\∃x4 x5,vo x4/\vo x5/\fr=lF ns t p (cy t (bx p)) x4 x5 O (oD (pD a)) none none none none none none none none) (λa r l fr ⟨d,x4,x5,j,q,f⟩=>?_) (λa fr ⟨d,x4,x5,j,q,f⟩=>?_) p [] _ ⟨rfl,x4,x5,j,q,rfl⟩
  .subst f;obtain⟨H,I,J,q4,q5⟩:=R.at d;refine HM (pL (L8 z d)) J I j q λx4 x5 j q=>?_;rw[dG];exact⟨by simpa using d,x4,x5,j,q,by unfold pD;rw[aao,abT];rfl⟩
  .subst f;rw[aaD]at d;subst d;exact fin x4 x5 j
end
end
def good:∀ns:List Int,ns.length<=63->∃h',Ev.run prog 100000 60 27 [.ref 0] [.bK (ns.map Ev.D.int)]=.ok (.bl true) h':=λns h=>Ll (Si (w:=100000) (n:=50) h (by decide))
end Lg
theorem Lw.good:∀ns:List Int,ns.length<=63->∃h',Ev.run Lw.prog 100000 60 27 [.ref 0] [.bK (ns.map Ev.D.int)]=.ok (.bl true) h':=Lg.good
structure PySem.W.Fast:Prop where(tw9702343756895990146 tw1191719561722466943 tw1386548092437017917 tw3519243141588680941 tw10993003499864763338 tw13116908580143457846 tw2527885490634159635 tw16487100462535014213 tw5178135227671257594 tw4443913038309398490 tw3218074061447330215 tw2938945514513682961 tw9766611469609801009 tw16408990661608849767 tw4548613551177731390 tw9791943165765192759 tw6833411397025644166 tw6694268603801593877 tw4672395314574888234 tw1972079524335968345 tw10638463100494022596 tw16339978133037680526 tw15696848420848166266 tw8082728417414389252 tw7809841550465757463 tw512812858471814640 tw116066874566121511 tw13738099486933059781 tw8745875550252151289 tw10096867185230362086 tw17200023755098355785 tw7116101656246963916 tw4025645006725245969 tw11874429951424134921 tw14108241923544058386 tw9206120609861269872 tw9134611172369220430 tw555476954974121723 tw10056307001535067122 tw9935932996354799025 tw5409660354849686612 tw16843825916927749436 tw6285028722680189379 tw7317273074441249907 tw17383638956320214423 tw151469239284209229 tw8550135933161000502 tw10041253630969319003 tw18295944890864829573 tw12719647050109606014 tw9960329379840319629 tw2681533313682448271 tw18414860987886378307 tw6328849795809149488 tw17026396343100401144 tw10109175078023447746 tw2823894490519447447 tw4085180013646144285 tw7144128118657364865 tw7259360111891023408 tw8263283535639749993 tw9442843983257155949 tw11609697045477577277 tw6233811714983515613 tw14535156159466645964 tw914857875229581970 tw13250327748285923291 tw10689150010049944882 tw17207285213452658099 tw16206609312491436816 tw15153631854988547299 tw8747776462812382044 tw1924867061153129050 tw2003075417555450468 tw16213033626050305260 tw10653962736380945957 tw15907202579179665358 tw17797814521706565459 tw10087242307862481378 tw1436302080680517196 tw11448607806274322451 tw13663300771898603719 tw7923737662869098438 tw9183896266460893052 tw17621312082860525843 tw6316887742776699335 tw11909537761338079122 tw6586465751541358232 tw4935222941777425509 tw12941794078166745408 tw2410535157146315506 tw12752947376829272560 tw8530772196519022299 tw10171139592601597880 tw1085239409051608911 tw7772472049297148051 tw12086500171978594065 tw11440478524470916 tw13600005947397338081 tw5657881984059009824 tw8627839200158813610 tw11168381131506589609 tw2334054488003039223 tw7613205873538993104 tw586417871601614580 tw14803438564460091092 tw10746796620369887410 tw11906191581048330135 tw2971855931239549855 tw10014297099165292783 tw15379061191761663546 tw2722085462057949386 tw9836204881718788883 tw16438040115957257610 tw9959088327835517242 tw2693130954504736538 tw15127462450825820991 tw11252139991848808639 tw4444389986526616672 tw11894486857679580044 tw4087523722714108823 tw16550333870508948899 tw8514530410496877071 tw831362872763774052 tw14092543556716341791 tw15551976313538291484 tw10385874240351843861 tw13350570692064202522 tw11238881051985671057 tw1916920272238437963 tw9109299505277963650 tw5432664817761147156 tw13519618033258727840 tw18352212743006732577 tw2305544225488228507 tw6208244422677159180 tw11822163569991746025 tw4470037075191813521 tw4685896661104675915 tw7832876727100473169 tw1885299066418058199 tw9702434286457322448 tw13309488339734443957 tw15201348818855207725 tw3220508692394581627 tw15380892866760582736 tw6791115436283961426 tw4201129246967093382 tw10693184540206127814 tw9757102841287492714 tw8811919669147289792 tw9201285745659954268 tw13653767047427807688 tw17458280839273052779 tw14490153424371304999 tw9395532334358676810 tw1558845010849815081 tw17587657909478480834 tw17234797709909251721 tw17392375853008831455 tw4424469275758835186 tw3462586139893017489 tw10069237138602622444 tw15786200753982327011 tw104693799401086362 tw14481532057399487004 tw12826403611993520234 tw10742638347928627215 tw14622249140054425193 tw17645686891261711026 tw6301989086562993221 tw15325825893052447692 tw8322032853113177188 tw6020988818878557877 tw13800601987188609287 tw4766623371761049411 tw14030700571507241073 tw6610721007886979036 tw14856453491479693170 tw9691906413889142674 tw1635984730044858265 tw843369249276165772 tw12944353960401052056 tw2937605274144012611 tw13697991406901531640 tw8694227631495121412 tw12601356154567149197 tw4442369572431525844 tw17377334817111655665 tw7383347077725669031 tw3156757735939767602 tw2990392627381554790 tw17855887083156721318 tw9551587542776865475 tw16777018935261297065 tw9397382966332022401 tw3116104451763255627 tw3807644993885288046 tw10695894638990075595:True)
open PySem PySem.W PyProof.Rows
set_option maxRecDepth 100000 in
set_option maxHeartbeats 0 in
theorem PySem.Challenge.cw_pastways_k44_whole_owners_holds : PySem.Challenge.rw_pastways_k44_whole_owners.Holds := by
 w_on;o_law;k_head;(case hw=>w_witness2)
 k_fill
 refine Sm.KR (F:=Lw.prog) (wh:=100000) (n:=60) (f:=27) (x:="_law_script") (l:=PySem.Challenge.rw_pastways_k44_whole_owners) rfl rfl ⟨rfl,by decide,by decide⟩ (λw h Y=>PySem.W.kIn_of Y) Lw.good ?F
 case F=>
  intro w mg fa h KX G hmg
  refine' Lw.all_mk KX G hmg ⟨?a0,L2.cj ?l0 ?c0 ?k0⟩ ⟨?a1,L2.cj ?l1 ?c1 ?k1⟩ ⟨?a2,L2.cj ?l2 ?c2 ?k2⟩ ⟨?a3,L2.cj ?l3 ?c3 ?k3⟩ ⟨?a4,L2.cj ?l4 ?c4 ?k4⟩ ⟨?a5,L2.cj ?l5 ?c5 ?k5⟩ ⟨?a6,L2.cj ?l6 ?c6 ?k6⟩ ⟨?a7,L2.cj ?l7 ?c7 ?k7⟩ ⟨?a8,L2.cj ?l8 ?c8 ?k8⟩ ⟨?a9,L2.cj ?l9 ?c9 ?k9⟩ ⟨?Zn,L2.cj ?Zo ?Zp ?Zq⟩ ⟨?Zr,L2.cj ?Zs ?Zt ?Zu⟩ ⟨?Zv,L2.cj ?Zw ?c12 ?Zx⟩ ⟨?Zy,L2.cj ?Zz ?ZA ?ZC⟩ ⟨?ZD,L2.cj ?ZE ?ZF ?ZG⟩ ⟨?ZH,L2.cj ?ZI ?ZJ ?ZK⟩ ⟨?ZL,L2.cj ?ZM ?ZN ?ZO⟩ ⟨?ZP,L2.cj ?ZQ ?ZR ?ZS⟩ ⟨?ZT,L2.cj ?ZU ?ZV ?ZW⟩ ⟨?ZX,L2.cj ?ZY ?ZZ ?Z0⟩ ⟨?Z1,L2.cj ?Z2 ?Z3 ?Z4⟩ ⟨?Z5,L2.cj ?Z6 ?Z7 ?Z8⟩ ⟨?Z9,L2.cj ?l22 ?c22 ?k22⟩ ⟨?a23,L2.cj ?l23 ?c23 ?k23⟩ ⟨?a24,L2.cj ?l24 ?c24 ?k24⟩ ⟨?a25,L2.cj ?l25 ?c25 ?k25⟩ ⟨?a26,L2.cj ?l26 ?c26 ?k26⟩ ⟨?a27,L2.cj ?l27 ?c27 ?k27⟩ ?z0 ?z1 ?z2 ?z3 ?z4 ?z5 ?z6 ?z7 ?z8 ?z9 ?q0;all_goals try first|k_is|rfl|decide +kernel | (with_unfolding_all rfl)
